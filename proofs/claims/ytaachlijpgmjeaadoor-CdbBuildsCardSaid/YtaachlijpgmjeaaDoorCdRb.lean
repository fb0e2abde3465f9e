/- What the document makes of an ask: the block that asks for it. -/
import Derived.Test.YtaachlijpgmjeaaDoorCdR
import Derived.Test.YtaachlijpgmjeaaDoorCdZ
import Derived.Deep.DeepCutAuto
import Derived.Deep.CutBlock
namespace Go.Proofs.YtaachlijpgmjeaaDoor
open Go.RowKit
section
variable {P : Program} {ops : Array Oper} {o : Oper} {a : Act} {w : World} {K : Act → World → Prop} {Q : Exit → Act → World → Prop} {E : Prop}
theorem step_call4 (hw : Region.wanted o (yielded ops a.tmps) = true) (f : Nat) (x y z q : Operand) (ty : Array TypeId) (ho : o.op = .call { callee := .value (.func f), args := #[x, y, z, q], argTypes := ty })
    (u v s t : Value) (hx : a.eval x = u) (hy : a.eval y = v) (hz : a.eval z = s) (hq : a.eval q = t) (hcf : ∀ args v, (callFunc f args).run P v = .ok (.enter f args) v) (post : Ending → World → Prop) (hc : Calls P f #[u, v, s, t] w post) (d0 : Option Tmp) (hd0 : o.dst = d0) (h : ∀ e w', post e w' → ∃ v, e = .returned v ∧ K (a.put d0 v) w') :
    if Region.wanted o (yielded ops a.tmps) = true then Oper.wp P o a w K Q else E := by
  subst hd0
  rw [if_pos hw]
  have hr : (execOp a.eval o).run P w = .ok (.enter f #[u, v, s, t]) w := by
    unfold execOp
    simp only [ho, resolve, invoke, Sem.run_bind, List.map_toArray, List.map_cons, List.map_nil, hx, hy, hz, hq]
    simp [go_sem, hcf]
  unfold Oper.wp
  rw [hr, Oper.upon_enter]
  refine hc.mono ?_
  intro e w' hp
  obtain ⟨v, rfl, hk⟩ := h e w' hp
  exact hk
end
theorem one_zer (y : UInt8) (n : Nat) : oneS y ++ ⟨(List.replicate n 0).toArray⟩ = zeroS y.toNat n := by
  apply bytes_ext
  simp [oneS, zeroS]
theorem bld_grd {x : Ak} (h : guardA x = false) : buildS x = none := by
  unfold buildS
  rw [if_neg (fun hc => by rw [h] at hc; exact absurd hc.1 (by decide))]
theorem bld_len {x : Ak} (h : lenB (firstA x).toNat = 0) : buildS x = none := by
  unfold buildS
  rw [if_neg (fun hc => hc.2.1 h)]
theorem bld_non {x : Ak} (h : parseS (makeS x) = none) : buildS x = none := by
  unfold buildS
  rw [if_neg]
  intro hc
  have := okP_iff.1 hc.2.2
  rw [h] at this; cases this
theorem bld_dif {x y : Ak} (h : parseS (makeS x) = some y) (hs : sameA x y = false) : buildS x = none := by
  unfold buildS
  rw [if_neg]
  intro hc
  have := okP_iff.1 hc.2.2
  rw [h] at this
  have e : y = x := Option.some.inj this
  rw [e, sameA_iff.2 rfl] at hs; cases hs
theorem bld_sam {x y : Ak} (hg : guardA x = true) (hl : lenB (firstA x).toNat ≠ 0) (h : parseS (makeS x) = some y) (hs : sameA x y = true) : buildS x = some (makeS x) := by
  unfold buildS
  have e : x = y := sameA_iff.1 hs
  rw [if_pos ⟨hg, hl, okP_iff.2 (by rw [h, ← e])⟩]
theorem bld_out {x : Ak} {w w' : World} {e : Ending} (h : buildS x = none) (he : e = .returned (.tuple #[.string ⟨#[]⟩, .int .i64 150])) (hb : Below w.heap.size w w') : BldOut (buildS x) w e w' := by
  rw [h]; exact ⟨he, hb⟩
theorem lenB_all {b : Nat} (hb : b < 256) (h : lenB b ≠ 0) : b = 0 ∨ b = 37 ∨ b = 53 ∨ b = 66 ∨ b = 160 ∨ b = 40 ∨ b = 42 ∨ b = 18 ∨ b = 136 ∨ b = 138 ∨ b = 147 ∨ b = 137 ∨ b = 94 ∨ b = 95 :=
  (by decide +kernel : ∀ b, b < 256 → lenB b ≠ 0 → (b = 0 ∨ b = 37 ∨ b = 53 ∨ b = 66 ∨ b = 160 ∨ b = 40 ∨ b = 42 ∨ b = 18 ∨ b = 136 ∨ b = 138 ∨ b = 147 ∨ b = 137 ∨ b = 94 ∨ b = 95)) b hb h
theorem sh1 {T : Prop} {G : World → Prop} (F : World → Prop) (main : (∀ v, F v → G v) → T) (pf : ∀ v, F v → G v) : T := main pf
set_option maxRecDepth 100000 in
set_option maxHeartbeats 16000000 in
theorem refBuild_any (x : Ak) (hx : Bnd x) (w : World) : Calls Tryd.prog 16 #[akV x] w (BldOut (buildS x) w) := by
  obtain ⟨o1, o2⟩ := hx.op
  obtain ⟨h1, h2⟩ := one_box w 28 x
  have HX := Lib.hid h1; have HB := Lib.hid h2
  obtain ⟨fa, hfa⟩ : ∃ fa, fa = firstA x := ⟨_, rfl⟩
  have HFA := Lib.hid hfa
  clear h1 h2 hx hfa
  go_enter Tryd.func16, Tryd.ntmps16
  go_upto_region 1 with (fail)
  change Code.wp _ _ _ _ (w.alloc (.cells (akC x) 28))
  generalize w.alloc (.cells (akC x) 28) = v0 at *
  obtain ⟨p, hp⟩ : ∃ p, p = w.heap.size := ⟨_, rfl⟩
  rw [← hp] at HX ⊢
  clear hp
  have c0 : v0.cell? ⟨p, 0, none⟩ = some (.int .i64 x.op) := HX.out.cell 0
  go_upto_if 14 with (fail)
  go_cut [4] (fun s4 wx => s4 = .int .i64 fa ∧ wx = v0)
  case first =>
    by_cases h : (256 : Int) ≤ x.op
    · have hd : IntKind.i64.wrap (x.op.tdiv 256) = fa := by
        rw [HFA.out, Int.tdiv_eq_ediv_of_nonneg (by omega), show firstA x = x.op / 256 by unfold firstA; rw [if_pos h]]
        exact IntWalk.i64_in _ (by omega)
      go_wp2_with (fail)
      go_meet
      exact ⟨rfl, rfl⟩
    · have hd : x.op = fa := by rw [HFA.out]; unfold firstA; rw [if_neg h]
      go_wp2_with (fail)
      go_meet
      exact ⟨rfl, rfl⟩
  case rest =>
    obtain ⟨rfl, rfl⟩ := hcut
    clear c0 o1 o2
    have c1 : wc.cell? ⟨p, 1, none⟩ = some (.int .i64 x.lba) := HX.out.cell 1
    have c2 : wc.cell? ⟨p, 2, none⟩ = some (.int .i64 x.blk) := HX.out.cell 2
    have c4 : wc.cell? ⟨p, 4, none⟩ = some (.int .i64 x.page) := HX.out.cell 4
    have c5 : wc.cell? ⟨p, 5, none⟩ = some (.int .i64 x.want) := HX.out.cell 5
    cases hg : guardA x with
    | false =>
      have HNO := Lib.hid (bld_grd hg)
      have hnn := of_decide_eq_false hg
      rw [← HFA.out] at hnn
      clear hg
      by_cases k0 : fa < 0
      · clear hnn
        go_wp2_with (fail)
        go_ret2
        exact bld_out HNO.out rfl HB.out
      by_cases k1 : (255 : Int) < fa
      · clear hnn
        go_wp2_with (fail)
        go_ret2
        exact bld_out HNO.out rfl HB.out
      by_cases k2 : x.lba < 0
      · clear hnn
        go_wp2_with (fail)
        go_ret2
        exact bld_out HNO.out rfl HB.out
      by_cases k3 : x.blk < 0
      · clear hnn
        go_wp2_with (fail)
        go_ret2
        exact bld_out HNO.out rfl HB.out
      by_cases k4 : x.want < 0
      · clear hnn
        go_wp2_with (fail)
        go_ret2
        exact bld_out HNO.out rfl HB.out
      by_cases k5 : x.page < 0
      · clear hnn
        go_wp2_with (fail)
        go_ret2
        exact bld_out HNO.out rfl HB.out
      by_cases k6 : (1099511627776 : Int) ≤ x.lba
      · clear hnn
        go_wp2_with (fail)
        go_ret2
        exact bld_out HNO.out rfl HB.out
      by_cases k7 : (1099511627776 : Int) ≤ x.blk
      · clear hnn
        go_wp2_with (fail)
        go_ret2
        exact bld_out HNO.out rfl HB.out
      by_cases k8 : (1099511627776 : Int) ≤ x.want
      · clear hnn
        go_wp2_with (fail)
        go_ret2
        exact bld_out HNO.out rfl HB.out
      by_cases k9 : (1099511627776 : Int) ≤ x.page
      · clear hnn
        go_wp2_with (fail)
        go_ret2
        exact bld_out HNO.out rfl HB.out
      exact absurd ⟨by omega, by omega, by omega, by omega, by omega, by omega, by omega, by omega, by omega, by omega⟩ hnn
    | true =>
      have HGD := Lib.hid hg
      have hgg := of_decide_eq_true hg
      rw [← HFA.out] at hgg
      obtain ⟨g1, g2, g3, g4, g5, g6, g7, g8, g9, g10⟩ := hgg
      clear hg
      have q0 : ¬ fa < 0 := by omega
      have q00 : ¬ (255 : Int) < fa := by omega
      have q1 : ¬ x.lba < 0 := by omega
      have q2 : ¬ x.blk < 0 := by omega
      have q3 : ¬ x.want < 0 := by omega
      have q4 : ¬ x.page < 0 := by omega
      have q5 : ¬ (1099511627776 : Int) ≤ x.lba := by omega
      have q6 : ¬ (1099511627776 : Int) ≤ x.blk := by omega
      have q7 : ¬ (1099511627776 : Int) ≤ x.want := by omega
      have q8 : ¬ (1099511627776 : Int) ≤ x.page := by omega
      go_upto_region 6 with (fail)
      clear q0 q00 q1 q2 q3 q4 q5 q6 q7 q8 c1 c2 c4 c5
      obtain ⟨b, rfl⟩ : ∃ b : Nat, fa = (b : Int) := ⟨fa.toNat, by omega⟩
      have hb256 : b < 256 := by omega
      have HFN := Lib.hid (show (firstA x).toNat = b by rw [← HFA.out]; rfl)
      obtain ⟨y, hy⟩ : ∃ y : UInt8, y.toNat = b := ⟨UInt8.ofNat b, by rw [UInt8.toNat_ofNat']; omega⟩
      have hwy : IntKind.u8.wrap (b : Int) = (y.toNat : Int) := by rw [IntKind.wrap_u8, hy]; omega
      have HLC := Lib.hid (fun v => refLen_any (oneS y) v)
      rw [show lenS (oneS y) = lenB b by rw [lenS_yes (by show (1 : Nat) ≠ 0; decide), one_byt, hy]] at HLC
      have HYB := Lib.hid hy
      obtain ⟨l, hl⟩ : ∃ l : Nat, x.lba = (l : Int) := ⟨x.lba.toNat, by omega⟩
      obtain ⟨k, hk⟩ : ∃ k : Nat, x.blk = (k : Int) := ⟨x.blk.toNat, by omega⟩
      obtain ⟨pg, hpg⟩ : ∃ k : Nat, x.page = (k : Int) := ⟨x.page.toNat, by omega⟩
      obtain ⟨wt, hwt⟩ : ∃ k : Nat, x.want = (k : Int) := ⟨x.want.toNat, by omega⟩
      have HL := Lib.hid hl; have HKK := Lib.hid hk; have HPG := Lib.hid hpg; have HWT := Lib.hid hwt
      have HLB := Lib.hid (show l < 1099511627776 ∧ k < 1099511627776 ∧ pg < 1099511627776 ∧ wt < 1099511627776 by omega)
      clear hl hk hpg hwt g1 g2 g3 g4 g5 g6 g7 g8 g9 g10 hy
      have hcv := conv_one (wc.alloc (.cells #[.int .u8 (y.toNat : Int)] 5)) wc.heap.size y (Blk.new wc 5 _)
      go_wp2_with (fail)
      refine (HLC.out _).mono ?_; rintro e v1 ⟨rfl, hb⟩
      have hal := (Below.refl wc.heap.size wc).alloc (Nat.le_refl _) (.cells #[.int .u8 (y.toNat : Int)] 5)
      replace HX := Lib.hid ((HX.out.below hal HX.out.lt).below hb ((HX.out.below hal HX.out.lt)).lt)
      replace HB := Lib.hid (HB.out.trans ((hal.trans (hb.mono hal.size)).mono HB.out.size))
      clear hb hcv hal
      by_cases hn : lenB b = 0
      · have HNO := Lib.hid (bld_len (x := x) (by rw [HFN.out]; exact hn))
        rw [hn]
        clear hn
        go_wp2_with (fail)
        go_ret2
        exact bld_out HNO.out rfl HB.out
      · have HNN := Lib.hid hn
        have hmost := lenB_most b
        have hleast := lenB_least hn
        obtain ⟨n, hnb⟩ : ∃ n, n = lenB b := ⟨_, rfl⟩
        have HNB := Lib.hid hnb
        rw [← hnb] at hmost hleast ⊢
        have hnz : ¬ (n : Int) = 0 := by omega
        have hnz2 : ((n : Int) == 0) = false := by simp; omega
        clear hn hnb
        go_upto_region 9 with (fail)
        clear hnz hnz2
        have hwm : IntKind.i64.wrap ((n : Int) - 1) = ((n - 1 : Nat) : Int) := by rw [IntWalk.i64_in _ (by omega)]; omega
        have HMM := Lib.hid (show n - 1 + 1 = n by omega)
        obtain ⟨m, hm⟩ : ∃ m, m = n - 1 := ⟨_, rfl⟩
        have HM := Lib.hid hm
        rw [← hm] at hwm
        have hm16 : m ≤ 16 := by omega
        clear hm
        have hs1 : (oneS y).size = 1 := rfl
        obtain ⟨zS, hzS⟩ : ∃ zS : ByteArray, zS = ⟨(List.replicate m 0).toArray⟩ := ⟨_, rfl⟩
        have hs2 : zS.size = m := by rw [hzS]; show (List.replicate m (0 : UInt8)).toArray.size = m; simp
        have HZZ := Lib.hid (show oneS y ++ zS = zeroS b m by rw [hzS, one_zer, HYB.out])
        have HZS := Lib.hid hzS
        have hcat : ¬ 9223372036854775807 < 1 + m := by omega
        clear hzS
        apply share3 (fun v _ _ => Blk v p 28 (akC x) ∧ Below w.heap.size w v)
        · intro HSH
          refine wp_region_held_drew (S := fun v => Blk v p 28 (akC x)) (by kernel_rfl) ?_ (fun hHeld => ?_)
          · exact HX.out.drew
          have HXx0 := Lib.hid HX.out.drew; have HBx0 := Lib.hid HB.out.drew
          generalize v1.drew = x0 at *
          refine takeH (i := 0) (v := ?_) rfl (by kernel_rfl) (by kernel_rfl) (by kernel_rfl) (fun _ _ _ h => h) (some 71) rfl (Or.inl ⟨by rfl, ?_⟩) (by assumption) ?_
          rotate_left 1
          · intro wz hSw
            go_simp
            try with_reducible rfl
          simp only [Act.put, List.setIfInBounds_toArray, List.set_cons_zero, List.set_cons_succ]
          refine takeH (i := 1) (v := ?_) rfl (by kernel_rfl) (by kernel_rfl) (by kernel_rfl) (fun _ _ _ h => h) (some 72) rfl (Or.inl ⟨by rfl, ?_⟩) (by assumption) ?_
          rotate_left 1
          · intro wz hSw
            go_simp
            try with_reducible rfl
          simp only [Act.put, List.setIfInBounds_toArray, List.set_cons_zero, List.set_cons_succ]
          refine takeH (i := 4) (v := ?_) rfl (by kernel_rfl) (by kernel_rfl) (by kernel_rfl) (fun _ _ _ h => h) (some 75) rfl (Or.inl ⟨by rfl, ?_⟩) (by assumption) ?_
          rotate_left 1
          · intro wz hSw
            go_simp
            try with_reducible rfl
          simp only [Act.put, List.setIfInBounds_toArray, List.set_cons_zero, List.set_cons_succ]
          refine takeH (i := 5) (v := ?_) rfl (by kernel_rfl) (by kernel_rfl) (by kernel_rfl) (fun _ _ _ h => h) (some 76) rfl (Or.inl ⟨by rfl, ?_⟩) (by assumption) ?_
          rotate_left 1
          · intro wz hSw
            go_simp
            try with_reducible rfl
          simp only [Act.put, List.setIfInBounds_toArray, List.set_cons_zero, List.set_cons_succ]
          refine wpAnyH_ready (rs := [2, 6]) (by kernel_rfl) (by simp) ?_
          refine AllReadyH.cons rfl (fun KK hKK => ?_) ?_
          · skip
            refine step_alloc (by rfl) (.slice (some ⟨x0.heap.size, 0, none⟩) 1 1) (x0.alloc (.cells #[.int .u8 (y.toNat : Int)] 5)) (by go_simp) (some 73) rfl ?_
            skip
            refine hKK.out _ _ (HXx0.out.alloc _) (fun hHeld => ?_)
            clear hKK KK
            simp only [Act.put, List.setIfInBounds_toArray, List.set_cons_zero, List.set_cons_succ]
            change wpAnyH _ _ _ _ _ _ _ _ (x0.alloc (.cells #[.int .u8 (y.toNat : Int)] 5))
            have hb := (Below.refl x0.heap.size x0).alloc (Nat.le_refl _) (.cells #[.int .u8 (y.toNat : Int)] 5)
            have HGx1 := Lib.hid (Blk.new x0 5 #[.int .u8 (y.toNat : Int)])
            have HXx1 := Lib.hid (HXx0.out.below hb HXx0.out.lt); have HBx1 := Lib.hid (HBx0.out.trans (hb.mono HBx0.out.size))
            clear hb
            generalize x0.alloc (.cells #[.int .u8 (y.toNat : Int)] 5) = x1 at *
            obtain ⟨g1, hg⟩ : ∃ g, g = x0.heap.size := ⟨_, rfl⟩
            rw [← hg] at HGx1 ⊢; clear hg
            refine wpAnyH_ready (rs := [3, 6]) (by kernel_rfl) (by simp) ?_
            refine AllReadyH.cons rfl (fun KK hKK => ?_) ?_
            · skip
              have hcv := conv_one x1 g1 y HGx1.out
              refine step_alloc (by rfl) (.string (oneS y)) x1 (by go_simp) (some 74) rfl ?_
              clear hcv
              refine hKK.out _ _ HXx1.out (fun hHeld => ?_)
              clear hKK KK
              simp only [Act.put, List.setIfInBounds_toArray, List.set_cons_zero, List.set_cons_succ]
              refine wpAnyH_ready (rs := [6]) (by kernel_rfl) (by simp) ?_
              refine AllReadyH.cons rfl (fun KK hKK => ?_) AllReadyH.nil
              have hmk := make_bytes m (by omega) x1
              refine step_alloc (by rfl) (.slice (some ⟨x1.heap.size, 0, none⟩) m m) (x1.alloc (.cells (bvA (List.replicate m 0)) 5)) (by go_simp) (some 77) rfl ?_
              clear hmk
              refine hKK.out _ _ (HXx1.out.alloc _) (fun hHeld => ?_)
              clear hKK KK
              simp only [Act.put, List.setIfInBounds_toArray, List.set_cons_zero, List.set_cons_succ]
              change wpAnyH _ _ _ _ _ _ _ _ (x1.alloc (.cells (bvA (List.replicate m 0)) 5))
              have hb := (Below.refl x1.heap.size x1).alloc (Nat.le_refl _) (.cells (bvA (List.replicate m 0)) 5)
              have HZx2 := Lib.hid (Blk.new x1 5 (bvA (List.replicate m 0)))
              have HXx2 := Lib.hid (HXx1.out.below hb HXx1.out.lt); have HBx2 := Lib.hid (HBx1.out.trans (hb.mono HBx1.out.size))
              clear hb
              generalize x1.alloc (.cells (bvA (List.replicate m 0)) 5) = x2 at *
              obtain ⟨g2, hg⟩ : ∃ g, g = x1.heap.size := ⟨_, rfl⟩
              rw [← hg] at HZx2 ⊢; clear hg
              refine wpAnyH_ready (rs := [7]) (by kernel_rfl) (by simp) ?_
              refine AllReadyH.cons rfl (fun KK hKK => ?_) AllReadyH.nil
              have hcv := bytes_str x2 g2 m (List.replicate m 0) (by simp) HZx2.out
              rw [← HZS.out] at hcv
              refine step_alloc (by rfl) (.string zS) x2 (by go_simp) (some 78) rfl ?_
              clear hcv
              refine hKK.out _ _ HXx2.out (fun hHeld => ?_)
              clear hKK KK
              simp only [Act.put, List.setIfInBounds_toArray, List.set_cons_zero, List.set_cons_succ]
              refine takeH (i := 8) (v := ?_) rfl (by kernel_rfl) (by kernel_rfl) (by kernel_rfl) (fun _ _ _ h => h) (some 79) rfl (Or.inl ⟨by rfl, ?_⟩) (by assumption) ?_
              rotate_left 1
              · intro wz hSw
                go_simp
                try with_reducible rfl
              simp only [Act.put, List.setIfInBounds_toArray, List.set_cons_zero, List.set_cons_succ]
              rw [HZZ.out]
              refine takeH (i := 9) (v := ?_) rfl (by kernel_rfl) (by kernel_rfl) (by kernel_rfl) (fun _ _ _ h => h) (some 6) rfl (Or.inl ⟨by rfl, ?_⟩) (by assumption) ?_
              rotate_left 1
              · intro wz hSw
                go_simp
                try with_reducible rfl
              simp only [Act.put, List.setIfInBounds_toArray, List.set_cons_zero, List.set_cons_succ]
              refine wpAnyH_done (by kernel_rfl) ?_ _
              exact HSH x2 g1 g2 ⟨HXx2.out, HBx2.out⟩
            refine AllReadyH.cons rfl (fun KK hKK => ?_) ?_
            · skip
              have hmk := make_bytes m (by omega) x1
              refine step_alloc (by rfl) (.slice (some ⟨x1.heap.size, 0, none⟩) m m) (x1.alloc (.cells (bvA (List.replicate m 0)) 5)) (by go_simp) (some 77) rfl ?_
              clear hmk
              refine hKK.out _ _ (HXx1.out.alloc _) (fun hHeld => ?_)
              clear hKK KK
              simp only [Act.put, List.setIfInBounds_toArray, List.set_cons_zero, List.set_cons_succ]
              change wpAnyH _ _ _ _ _ _ _ _ (x1.alloc (.cells (bvA (List.replicate m 0)) 5))
              have hb := (Below.refl x1.heap.size x1).alloc (Nat.le_refl _) (.cells (bvA (List.replicate m 0)) 5)
              have HZx3 := Lib.hid (Blk.new x1 5 (bvA (List.replicate m 0)))
              have HXx3 := Lib.hid (HXx1.out.below hb HXx1.out.lt); have HBx3 := Lib.hid (HBx1.out.trans (hb.mono HBx1.out.size))
              have HGx3 := Lib.hid (HGx1.out.below hb HGx1.out.lt)
              clear hb
              generalize x1.alloc (.cells (bvA (List.replicate m 0)) 5) = x3 at *
              obtain ⟨g2, hg⟩ : ∃ g, g = x1.heap.size := ⟨_, rfl⟩
              rw [← hg] at HZx3 ⊢; clear hg
              refine wpAnyH_ready (rs := [3, 7]) (by kernel_rfl) (by simp) ?_
              refine AllReadyH.cons rfl (fun KK hKK => ?_) ?_
              · skip
                have hcv := conv_one x3 g1 y HGx3.out
                refine step_alloc (by rfl) (.string (oneS y)) x3 (by go_simp) (some 74) rfl ?_
                clear hcv
                refine hKK.out _ _ HXx3.out (fun hHeld => ?_)
                clear hKK KK
                simp only [Act.put, List.setIfInBounds_toArray, List.set_cons_zero, List.set_cons_succ]
                refine wpAnyH_ready (rs := [7]) (by kernel_rfl) (by simp) ?_
                refine AllReadyH.cons rfl (fun KK hKK => ?_) AllReadyH.nil
                have hcv := bytes_str x3 g2 m (List.replicate m 0) (by simp) HZx3.out
                rw [← HZS.out] at hcv
                refine step_alloc (by rfl) (.string zS) x3 (by go_simp) (some 78) rfl ?_
                clear hcv
                refine hKK.out _ _ HXx3.out (fun hHeld => ?_)
                clear hKK KK
                simp only [Act.put, List.setIfInBounds_toArray, List.set_cons_zero, List.set_cons_succ]
                refine takeH (i := 8) (v := ?_) rfl (by kernel_rfl) (by kernel_rfl) (by kernel_rfl) (fun _ _ _ h => h) (some 79) rfl (Or.inl ⟨by rfl, ?_⟩) (by assumption) ?_
                rotate_left 1
                · intro wz hSw
                  go_simp
                  try with_reducible rfl
                simp only [Act.put, List.setIfInBounds_toArray, List.set_cons_zero, List.set_cons_succ]
                rw [HZZ.out]
                refine takeH (i := 9) (v := ?_) rfl (by kernel_rfl) (by kernel_rfl) (by kernel_rfl) (fun _ _ _ h => h) (some 6) rfl (Or.inl ⟨by rfl, ?_⟩) (by assumption) ?_
                rotate_left 1
                · intro wz hSw
                  go_simp
                  try with_reducible rfl
                simp only [Act.put, List.setIfInBounds_toArray, List.set_cons_zero, List.set_cons_succ]
                refine wpAnyH_done (by kernel_rfl) ?_ _
                exact HSH x3 g1 g2 ⟨HXx3.out, HBx3.out⟩
              refine AllReadyH.cons rfl (fun KK hKK => ?_) ?_
              · skip
                have hcv := bytes_str x3 g2 m (List.replicate m 0) (by simp) HZx3.out
                rw [← HZS.out] at hcv
                refine step_alloc (by rfl) (.string zS) x3 (by go_simp) (some 78) rfl ?_
                clear hcv
                refine hKK.out _ _ HXx3.out (fun hHeld => ?_)
                clear hKK KK
                simp only [Act.put, List.setIfInBounds_toArray, List.set_cons_zero, List.set_cons_succ]
                refine wpAnyH_ready (rs := [3]) (by kernel_rfl) (by simp) ?_
                refine AllReadyH.cons rfl (fun KK hKK => ?_) AllReadyH.nil
                have hcv := conv_one x3 g1 y HGx3.out
                refine step_alloc (by rfl) (.string (oneS y)) x3 (by go_simp) (some 74) rfl ?_
                clear hcv
                refine hKK.out _ _ HXx3.out (fun hHeld => ?_)
                clear hKK KK
                simp only [Act.put, List.setIfInBounds_toArray, List.set_cons_zero, List.set_cons_succ]
                refine takeH (i := 8) (v := ?_) rfl (by kernel_rfl) (by kernel_rfl) (by kernel_rfl) (fun _ _ _ h => h) (some 79) rfl (Or.inl ⟨by rfl, ?_⟩) (by assumption) ?_
                rotate_left 1
                · intro wz hSw
                  go_simp
                  try with_reducible rfl
                simp only [Act.put, List.setIfInBounds_toArray, List.set_cons_zero, List.set_cons_succ]
                rw [HZZ.out]
                refine takeH (i := 9) (v := ?_) rfl (by kernel_rfl) (by kernel_rfl) (by kernel_rfl) (fun _ _ _ h => h) (some 6) rfl (Or.inl ⟨by rfl, ?_⟩) (by assumption) ?_
                rotate_left 1
                · intro wz hSw
                  go_simp
                  try with_reducible rfl
                simp only [Act.put, List.setIfInBounds_toArray, List.set_cons_zero, List.set_cons_succ]
                refine wpAnyH_done (by kernel_rfl) ?_ _
                exact HSH x3 g1 g2 ⟨HXx3.out, HBx3.out⟩
              exact AllReadyH.nil
            exact AllReadyH.nil
          refine AllReadyH.cons rfl (fun KK hKK => ?_) ?_
          · skip
            have hmk := make_bytes m (by omega) x0
            refine step_alloc (by rfl) (.slice (some ⟨x0.heap.size, 0, none⟩) m m) (x0.alloc (.cells (bvA (List.replicate m 0)) 5)) (by go_simp) (some 77) rfl ?_
            clear hmk
            refine hKK.out _ _ (HXx0.out.alloc _) (fun hHeld => ?_)
            clear hKK KK
            simp only [Act.put, List.setIfInBounds_toArray, List.set_cons_zero, List.set_cons_succ]
            change wpAnyH _ _ _ _ _ _ _ _ (x0.alloc (.cells (bvA (List.replicate m 0)) 5))
            have hb := (Below.refl x0.heap.size x0).alloc (Nat.le_refl _) (.cells (bvA (List.replicate m 0)) 5)
            have HZx4 := Lib.hid (Blk.new x0 5 (bvA (List.replicate m 0)))
            have HXx4 := Lib.hid (HXx0.out.below hb HXx0.out.lt); have HBx4 := Lib.hid (HBx0.out.trans (hb.mono HBx0.out.size))
            clear hb
            generalize x0.alloc (.cells (bvA (List.replicate m 0)) 5) = x4 at *
            obtain ⟨g2, hg⟩ : ∃ g, g = x0.heap.size := ⟨_, rfl⟩
            rw [← hg] at HZx4 ⊢; clear hg
            refine wpAnyH_ready (rs := [2, 7]) (by kernel_rfl) (by simp) ?_
            refine AllReadyH.cons rfl (fun KK hKK => ?_) ?_
            · skip
              refine step_alloc (by rfl) (.slice (some ⟨x4.heap.size, 0, none⟩) 1 1) (x4.alloc (.cells #[.int .u8 (y.toNat : Int)] 5)) (by go_simp) (some 73) rfl ?_
              skip
              refine hKK.out _ _ (HXx4.out.alloc _) (fun hHeld => ?_)
              clear hKK KK
              simp only [Act.put, List.setIfInBounds_toArray, List.set_cons_zero, List.set_cons_succ]
              change wpAnyH _ _ _ _ _ _ _ _ (x4.alloc (.cells #[.int .u8 (y.toNat : Int)] 5))
              have hb := (Below.refl x4.heap.size x4).alloc (Nat.le_refl _) (.cells #[.int .u8 (y.toNat : Int)] 5)
              have HGx5 := Lib.hid (Blk.new x4 5 #[.int .u8 (y.toNat : Int)])
              have HXx5 := Lib.hid (HXx4.out.below hb HXx4.out.lt); have HBx5 := Lib.hid (HBx4.out.trans (hb.mono HBx4.out.size))
              have HZx5 := Lib.hid (HZx4.out.below hb HZx4.out.lt)
              clear hb
              generalize x4.alloc (.cells #[.int .u8 (y.toNat : Int)] 5) = x5 at *
              obtain ⟨g1, hg⟩ : ∃ g, g = x4.heap.size := ⟨_, rfl⟩
              rw [← hg] at HGx5 ⊢; clear hg
              refine wpAnyH_ready (rs := [3, 7]) (by kernel_rfl) (by simp) ?_
              refine AllReadyH.cons rfl (fun KK hKK => ?_) ?_
              · skip
                have hcv := conv_one x5 g1 y HGx5.out
                refine step_alloc (by rfl) (.string (oneS y)) x5 (by go_simp) (some 74) rfl ?_
                clear hcv
                refine hKK.out _ _ HXx5.out (fun hHeld => ?_)
                clear hKK KK
                simp only [Act.put, List.setIfInBounds_toArray, List.set_cons_zero, List.set_cons_succ]
                refine wpAnyH_ready (rs := [7]) (by kernel_rfl) (by simp) ?_
                refine AllReadyH.cons rfl (fun KK hKK => ?_) AllReadyH.nil
                have hcv := bytes_str x5 g2 m (List.replicate m 0) (by simp) HZx5.out
                rw [← HZS.out] at hcv
                refine step_alloc (by rfl) (.string zS) x5 (by go_simp) (some 78) rfl ?_
                clear hcv
                refine hKK.out _ _ HXx5.out (fun hHeld => ?_)
                clear hKK KK
                simp only [Act.put, List.setIfInBounds_toArray, List.set_cons_zero, List.set_cons_succ]
                refine takeH (i := 8) (v := ?_) rfl (by kernel_rfl) (by kernel_rfl) (by kernel_rfl) (fun _ _ _ h => h) (some 79) rfl (Or.inl ⟨by rfl, ?_⟩) (by assumption) ?_
                rotate_left 1
                · intro wz hSw
                  go_simp
                  try with_reducible rfl
                simp only [Act.put, List.setIfInBounds_toArray, List.set_cons_zero, List.set_cons_succ]
                rw [HZZ.out]
                refine takeH (i := 9) (v := ?_) rfl (by kernel_rfl) (by kernel_rfl) (by kernel_rfl) (fun _ _ _ h => h) (some 6) rfl (Or.inl ⟨by rfl, ?_⟩) (by assumption) ?_
                rotate_left 1
                · intro wz hSw
                  go_simp
                  try with_reducible rfl
                simp only [Act.put, List.setIfInBounds_toArray, List.set_cons_zero, List.set_cons_succ]
                refine wpAnyH_done (by kernel_rfl) ?_ _
                exact HSH x5 g1 g2 ⟨HXx5.out, HBx5.out⟩
              refine AllReadyH.cons rfl (fun KK hKK => ?_) ?_
              · skip
                have hcv := bytes_str x5 g2 m (List.replicate m 0) (by simp) HZx5.out
                rw [← HZS.out] at hcv
                refine step_alloc (by rfl) (.string zS) x5 (by go_simp) (some 78) rfl ?_
                clear hcv
                refine hKK.out _ _ HXx5.out (fun hHeld => ?_)
                clear hKK KK
                simp only [Act.put, List.setIfInBounds_toArray, List.set_cons_zero, List.set_cons_succ]
                refine wpAnyH_ready (rs := [3]) (by kernel_rfl) (by simp) ?_
                refine AllReadyH.cons rfl (fun KK hKK => ?_) AllReadyH.nil
                have hcv := conv_one x5 g1 y HGx5.out
                refine step_alloc (by rfl) (.string (oneS y)) x5 (by go_simp) (some 74) rfl ?_
                clear hcv
                refine hKK.out _ _ HXx5.out (fun hHeld => ?_)
                clear hKK KK
                simp only [Act.put, List.setIfInBounds_toArray, List.set_cons_zero, List.set_cons_succ]
                refine takeH (i := 8) (v := ?_) rfl (by kernel_rfl) (by kernel_rfl) (by kernel_rfl) (fun _ _ _ h => h) (some 79) rfl (Or.inl ⟨by rfl, ?_⟩) (by assumption) ?_
                rotate_left 1
                · intro wz hSw
                  go_simp
                  try with_reducible rfl
                simp only [Act.put, List.setIfInBounds_toArray, List.set_cons_zero, List.set_cons_succ]
                rw [HZZ.out]
                refine takeH (i := 9) (v := ?_) rfl (by kernel_rfl) (by kernel_rfl) (by kernel_rfl) (fun _ _ _ h => h) (some 6) rfl (Or.inl ⟨by rfl, ?_⟩) (by assumption) ?_
                rotate_left 1
                · intro wz hSw
                  go_simp
                  try with_reducible rfl
                simp only [Act.put, List.setIfInBounds_toArray, List.set_cons_zero, List.set_cons_succ]
                refine wpAnyH_done (by kernel_rfl) ?_ _
                exact HSH x5 g1 g2 ⟨HXx5.out, HBx5.out⟩
              exact AllReadyH.nil
            refine AllReadyH.cons rfl (fun KK hKK => ?_) ?_
            · skip
              have hcv := bytes_str x4 g2 m (List.replicate m 0) (by simp) HZx4.out
              rw [← HZS.out] at hcv
              refine step_alloc (by rfl) (.string zS) x4 (by go_simp) (some 78) rfl ?_
              clear hcv
              refine hKK.out _ _ HXx4.out (fun hHeld => ?_)
              clear hKK KK
              simp only [Act.put, List.setIfInBounds_toArray, List.set_cons_zero, List.set_cons_succ]
              refine wpAnyH_ready (rs := [2]) (by kernel_rfl) (by simp) ?_
              refine AllReadyH.cons rfl (fun KK hKK => ?_) AllReadyH.nil
              refine step_alloc (by rfl) (.slice (some ⟨x4.heap.size, 0, none⟩) 1 1) (x4.alloc (.cells #[.int .u8 (y.toNat : Int)] 5)) (by go_simp) (some 73) rfl ?_
              skip
              refine hKK.out _ _ (HXx4.out.alloc _) (fun hHeld => ?_)
              clear hKK KK
              simp only [Act.put, List.setIfInBounds_toArray, List.set_cons_zero, List.set_cons_succ]
              change wpAnyH _ _ _ _ _ _ _ _ (x4.alloc (.cells #[.int .u8 (y.toNat : Int)] 5))
              have hb := (Below.refl x4.heap.size x4).alloc (Nat.le_refl _) (.cells #[.int .u8 (y.toNat : Int)] 5)
              have HGx6 := Lib.hid (Blk.new x4 5 #[.int .u8 (y.toNat : Int)])
              have HXx6 := Lib.hid (HXx4.out.below hb HXx4.out.lt); have HBx6 := Lib.hid (HBx4.out.trans (hb.mono HBx4.out.size))
              clear hb
              generalize x4.alloc (.cells #[.int .u8 (y.toNat : Int)] 5) = x6 at *
              obtain ⟨g1, hg⟩ : ∃ g, g = x4.heap.size := ⟨_, rfl⟩
              rw [← hg] at HGx6 ⊢; clear hg
              refine wpAnyH_ready (rs := [3]) (by kernel_rfl) (by simp) ?_
              refine AllReadyH.cons rfl (fun KK hKK => ?_) AllReadyH.nil
              have hcv := conv_one x6 g1 y HGx6.out
              refine step_alloc (by rfl) (.string (oneS y)) x6 (by go_simp) (some 74) rfl ?_
              clear hcv
              refine hKK.out _ _ HXx6.out (fun hHeld => ?_)
              clear hKK KK
              simp only [Act.put, List.setIfInBounds_toArray, List.set_cons_zero, List.set_cons_succ]
              refine takeH (i := 8) (v := ?_) rfl (by kernel_rfl) (by kernel_rfl) (by kernel_rfl) (fun _ _ _ h => h) (some 79) rfl (Or.inl ⟨by rfl, ?_⟩) (by assumption) ?_
              rotate_left 1
              · intro wz hSw
                go_simp
                try with_reducible rfl
              simp only [Act.put, List.setIfInBounds_toArray, List.set_cons_zero, List.set_cons_succ]
              rw [HZZ.out]
              refine takeH (i := 9) (v := ?_) rfl (by kernel_rfl) (by kernel_rfl) (by kernel_rfl) (fun _ _ _ h => h) (some 6) rfl (Or.inl ⟨by rfl, ?_⟩) (by assumption) ?_
              rotate_left 1
              · intro wz hSw
                go_simp
                try with_reducible rfl
              simp only [Act.put, List.setIfInBounds_toArray, List.set_cons_zero, List.set_cons_succ]
              refine wpAnyH_done (by kernel_rfl) ?_ _
              exact HSH x6 g1 g2 ⟨HXx6.out, HBx6.out⟩
            exact AllReadyH.nil
          exact AllReadyH.nil
        rintro v2 g1 g2 ⟨hX2, hB2⟩
        have HX := Lib.hid hX2; have HB := Lib.hid hB2
        clear hX2 hB2
        have c3 : v2.cell? ⟨p, 3, none⟩ = some (.bool x.fu) := HX.out.cell 3
        go_upto_if 81 with (fail)
        go_cut [7] (fun s7 wx => s7 = .int .i64 ((if x.fu = true then 8 else 0 : Nat) : Int) ∧ wx = v2)
        case first =>
          cases hfu : x.fu with
          | true =>
            rw [hfu] at c3
            go_wp2_with (fail)
            go_meet
            exact ⟨by rw [hfu]; rfl, rfl⟩
          | false =>
            rw [hfu] at c3
            go_wp2_with (fail)
            go_meet
            exact ⟨by rw [hfu]; rfl, rfl⟩
        case rest =>
          obtain ⟨rfl, rfl⟩ := hcut
          clear c3
          obtain ⟨fl, hfl⟩ : ∃ fl : Nat, fl = if x.fu = true then 8 else 0 := ⟨_, rfl⟩
          have HFL := Lib.hid hfl
          rw [← hfl]
          clear hfl
          obtain ⟨t, ht⟩ : ∃ t, t = makeS x := ⟨_, rfl⟩
          have HT := Lib.hid ht
          clear ht
          go_upto_block 0 with (fail)
          go_cut [6] (fun s6 wx => s6 = .string t ∧ t.size ≤ 100000 ∧ Blk wx p 28 (akC x) ∧ Below w.heap.size w wx)
          case first =>
            have HFB := Lib.hid (show fl < 1099511627776 by rw [HFL.out]; split <;> omega)
            rcases lenB_all hb256 HNN.out with rfl | rfl | rfl | rfl | rfl | rfl | rfl | rfl | rfl | rfl | rfl | rfl | rfl | rfl
            · as_aux_lemma =>
                obtain rfl : m = 5 := by rw [HM.out, HNB.out]; rfl
                have HZ0 := Lib.hid (show (zeroS 0 5).size = 6 from zeroS_size _ _)
                obtain ⟨s0, hs0⟩ : ∃ z, z = zeroS 0 5 := ⟨_, rfl⟩
                rw [← hs0] at HZ0 ⊢
                have HS0 := Lib.hid hs0
                clear hs0
                have HE := Lib.hid (show s0 = t by
                  rw [HT.out, HS0.out]
                  unfold makeS
                  rw [HFN.out]
                  dsimp only
                  rw [if_neg (show ¬ (0 = 18) by decide), if_neg (show ¬ (0 = 40 ∨ 0 = 42) by decide), if_neg (show ¬ (0 = 136 ∨ 0 = 138) by decide), if_neg (show ¬ (0 = 147) by decide), if_neg (show ¬ (0 = 137) by decide), if_neg (show ¬ (0 = 66) by decide), if_neg (show ¬ (0 = 160) by decide), if_neg (show ¬ (0 = 94) by decide), if_neg (show ¬ (0 = 95) by decide)]
                  rfl)
                have HTT := Lib.hid (show t.size ≤ 100000 by rw [← HE.out, HZ0.out]; decide)
                go_wp2_with (fail)
                go_meet
                exact ⟨by rw [HE.out], HTT.out, HX.out, HB.out⟩
            · as_aux_lemma =>
                obtain rfl : m = 9 := by rw [HM.out, HNB.out]; rfl
                have HZ0 := Lib.hid (show (zeroS 37 9).size = 10 from zeroS_size _ _)
                obtain ⟨s0, hs0⟩ : ∃ z, z = zeroS 37 9 := ⟨_, rfl⟩
                rw [← hs0] at HZ0 ⊢
                have HS0 := Lib.hid hs0
                clear hs0
                have HE := Lib.hid (show s0 = t by
                  rw [HT.out, HS0.out]
                  unfold makeS
                  rw [HFN.out]
                  dsimp only
                  rw [if_neg (show ¬ (37 = 18) by decide), if_neg (show ¬ (37 = 40 ∨ 37 = 42) by decide), if_neg (show ¬ (37 = 136 ∨ 37 = 138) by decide), if_neg (show ¬ (37 = 147) by decide), if_neg (show ¬ (37 = 137) by decide), if_neg (show ¬ (37 = 66) by decide), if_neg (show ¬ (37 = 160) by decide), if_neg (show ¬ (37 = 94) by decide), if_neg (show ¬ (37 = 95) by decide)]
                  rfl)
                have HTT := Lib.hid (show t.size ≤ 100000 by rw [← HE.out, HZ0.out]; decide)
                go_wp2_with (fail)
                go_meet
                exact ⟨by rw [HE.out], HTT.out, HX.out, HB.out⟩
            · as_aux_lemma =>
                obtain rfl : m = 9 := by rw [HM.out, HNB.out]; rfl
                have HZ0 := Lib.hid (show (zeroS 53 9).size = 10 from zeroS_size _ _)
                obtain ⟨s0, hs0⟩ : ∃ z, z = zeroS 53 9 := ⟨_, rfl⟩
                rw [← hs0] at HZ0 ⊢
                have HS0 := Lib.hid hs0
                clear hs0
                have HE := Lib.hid (show s0 = t by
                  rw [HT.out, HS0.out]
                  unfold makeS
                  rw [HFN.out]
                  dsimp only
                  rw [if_neg (show ¬ (53 = 18) by decide), if_neg (show ¬ (53 = 40 ∨ 53 = 42) by decide), if_neg (show ¬ (53 = 136 ∨ 53 = 138) by decide), if_neg (show ¬ (53 = 147) by decide), if_neg (show ¬ (53 = 137) by decide), if_neg (show ¬ (53 = 66) by decide), if_neg (show ¬ (53 = 160) by decide), if_neg (show ¬ (53 = 94) by decide), if_neg (show ¬ (53 = 95) by decide)]
                  rfl)
                have HTT := Lib.hid (show t.size ≤ 100000 by rw [← HE.out, HZ0.out]; decide)
                go_wp2_with (fail)
                go_meet
                exact ⟨by rw [HE.out], HTT.out, HX.out, HB.out⟩
            · as_aux_lemma =>
                obtain rfl : m = 9 := by rw [HM.out, HNB.out]; rfl
                have HZ0 := Lib.hid (show (zeroS 66 9).size = 10 from zeroS_size _ _)
                obtain ⟨s0, hs0⟩ : ∃ z, z = zeroS 66 9 := ⟨_, rfl⟩
                rw [← hs0] at HZ0 ⊢
                have HS0 := Lib.hid hs0
                clear hs0
                have HP1 := Lib.hid (fun v => refPut_any s0 7 wt 2 v (by rw [HZ0.out]; decide) (by decide) (by decide) (by rw [HZ0.out]; decide) (by have := HLB.out; omega))
                obtain ⟨s1, hs1⟩ : ∃ z, z = put s0 7 wt 2 := ⟨_, rfl⟩
                rw [← hs1] at HP1
                have HZ1 := Lib.hid (show s1.size = 10 by rw [hs1]; exact pz (by decide) (by decide) HZ0.out (by decide))
                have HS1 := Lib.hid hs1
                clear hs1
                have HE := Lib.hid (show s1 = t by
                  rw [HT.out, HS1.out, HS0.out]
                  unfold makeS
                  rw [HFN.out]
                  dsimp only
                  rw [if_neg (show ¬ (66 = 18) by decide), if_neg (show ¬ (66 = 40 ∨ 66 = 42) by decide), if_neg (show ¬ (66 = 136 ∨ 66 = 138) by decide), if_neg (show ¬ (66 = 147) by decide), if_neg (show ¬ (66 = 137) by decide), if_pos (show 66 = 66 by decide), HWT.out, Int.toNat_natCast]
                  rfl)
                have HTT := Lib.hid (show t.size ≤ 100000 by rw [← HE.out, HZ1.out]; decide)
                have c5 : wc.cell? ⟨p, 5, none⟩ = some (.int .i64 (wt : Int)) := by rw [← HWT.out]; exact HX.out.cell 5
                go_wp2_with (fail)
                refine (HP1.out wc).mono ?_; rintro e v5 ⟨rfl, hb⟩
                replace HB := Lib.hid (HB.out.trans (hb.mono HB.out.size)); replace HX := Lib.hid (HX.out.below hb HX.out.lt); clear hb c5
                go_wp2_with (fail)
                go_meet
                exact ⟨by rw [HE.out], HTT.out, HX.out, HB.out⟩
            · as_aux_lemma =>
                obtain rfl : m = 11 := by rw [HM.out, HNB.out]; rfl
                have HZ0 := Lib.hid (show (zeroS 160 11).size = 12 from zeroS_size _ _)
                obtain ⟨s0, hs0⟩ : ∃ z, z = zeroS 160 11 := ⟨_, rfl⟩
                rw [← hs0] at HZ0 ⊢
                have HS0 := Lib.hid hs0
                clear hs0
                have HP1 := Lib.hid (fun v => refPut_any s0 6 wt 4 v (by rw [HZ0.out]; decide) (by decide) (by decide) (by rw [HZ0.out]; decide) (by have := HLB.out; omega))
                obtain ⟨s1, hs1⟩ : ∃ z, z = put s0 6 wt 4 := ⟨_, rfl⟩
                rw [← hs1] at HP1
                have HZ1 := Lib.hid (show s1.size = 12 by rw [hs1]; exact pz (by decide) (by decide) HZ0.out (by decide))
                have HS1 := Lib.hid hs1
                clear hs1
                have HE := Lib.hid (show s1 = t by
                  rw [HT.out, HS1.out, HS0.out]
                  unfold makeS
                  rw [HFN.out]
                  dsimp only
                  rw [if_neg (show ¬ (160 = 18) by decide), if_neg (show ¬ (160 = 40 ∨ 160 = 42) by decide), if_neg (show ¬ (160 = 136 ∨ 160 = 138) by decide), if_neg (show ¬ (160 = 147) by decide), if_neg (show ¬ (160 = 137) by decide), if_neg (show ¬ (160 = 66) by decide), if_pos (show 160 = 160 by decide), HWT.out, Int.toNat_natCast]
                  rfl)
                have HTT := Lib.hid (show t.size ≤ 100000 by rw [← HE.out, HZ1.out]; decide)
                have c5 : wc.cell? ⟨p, 5, none⟩ = some (.int .i64 (wt : Int)) := by rw [← HWT.out]; exact HX.out.cell 5
                go_wp2_with (fail)
                refine (HP1.out wc).mono ?_; rintro e v5 ⟨rfl, hb⟩
                replace HB := Lib.hid (HB.out.trans (hb.mono HB.out.size)); replace HX := Lib.hid (HX.out.below hb HX.out.lt); clear hb c5
                go_wp2_with (fail)
                go_meet
                exact ⟨by rw [HE.out], HTT.out, HX.out, HB.out⟩
            · as_aux_lemma =>
                obtain rfl : m = 9 := by rw [HM.out, HNB.out]; rfl
                have HZ0 := Lib.hid (show (zeroS 40 9).size = 10 from zeroS_size _ _)
                obtain ⟨s0, hs0⟩ : ∃ z, z = zeroS 40 9 := ⟨_, rfl⟩
                rw [← hs0] at HZ0 ⊢
                have HS0 := Lib.hid hs0
                clear hs0
                have HP1 := Lib.hid (fun v => refPut_any s0 1 fl 1 v (by rw [HZ0.out]; decide) (by decide) (by decide) (by rw [HZ0.out]; decide) HFB.out)
                obtain ⟨s1, hs1⟩ : ∃ z, z = put s0 1 fl 1 := ⟨_, rfl⟩
                rw [← hs1] at HP1
                have HZ1 := Lib.hid (show s1.size = 10 by rw [hs1]; exact pz (by decide) (by decide) HZ0.out (by decide))
                have HS1 := Lib.hid hs1
                clear hs1
                have HP2 := Lib.hid (fun v => refPut_any s1 2 l 4 v (by rw [HZ1.out]; decide) (by decide) (by decide) (by rw [HZ1.out]; decide) (by have := HLB.out; omega))
                obtain ⟨s2, hs2⟩ : ∃ z, z = put s1 2 l 4 := ⟨_, rfl⟩
                rw [← hs2] at HP2
                have HZ2 := Lib.hid (show s2.size = 10 by rw [hs2]; exact pz (by decide) (by decide) HZ1.out (by decide))
                have HS2 := Lib.hid hs2
                clear hs2
                have HP3 := Lib.hid (fun v => refPut_any s2 7 k 2 v (by rw [HZ2.out]; decide) (by decide) (by decide) (by rw [HZ2.out]; decide) (by have := HLB.out; omega))
                obtain ⟨s3, hs3⟩ : ∃ z, z = put s2 7 k 2 := ⟨_, rfl⟩
                rw [← hs3] at HP3
                have HZ3 := Lib.hid (show s3.size = 10 by rw [hs3]; exact pz (by decide) (by decide) HZ2.out (by decide))
                have HS3 := Lib.hid hs3
                clear hs3
                have HE := Lib.hid (show s3 = t by
                  rw [HT.out, HS3.out, HS2.out, HS1.out, HS0.out]
                  unfold makeS
                  rw [HFN.out]
                  dsimp only
                  rw [if_neg (show ¬ (40 = 18) by decide), if_pos (show 40 = 40 ∨ 40 = 42 by decide), ← HFL.out, HL.out, HKK.out, Int.toNat_natCast, Int.toNat_natCast]
                  rfl)
                have HTT := Lib.hid (show t.size ≤ 100000 by rw [← HE.out, HZ3.out]; decide)
                go_upto_region 20 with (fail)
                refine wp_region_held_drew (S := fun v => Blk v p 28 (akC x)) (by kernel_rfl) ?_ (fun hHeld => ?_)
                · exact HX.out.drew
                replace HB := Lib.hid HB.out.drew; replace HX := Lib.hid HX.out.drew
                generalize wc.drew = x0 at *
                refine takeH (i := 0) (v := ?_) rfl (by kernel_rfl) (by kernel_rfl) (by kernel_rfl) (fun _ _ _ h => h) (some 101) rfl (Or.inl ⟨by rfl, ?_⟩) (by assumption) ?_
                rotate_left 1
                · intro wz hSw
                  go_simp
                  try with_reducible rfl
                simp only [Act.put, List.setIfInBounds_toArray, List.set_cons_zero, List.set_cons_succ]
                refine takeH (i := 1) (v := ?_) rfl (by kernel_rfl) (by kernel_rfl) (by kernel_rfl) (fun _ _ _ h => h) (some 102) rfl (Or.inl ⟨by rfl, ?_⟩) (by assumption) ?_
                rotate_left 1
                · intro wz hSw
                  go_simp
                  try with_reducible rfl
                simp only [Act.put, List.setIfInBounds_toArray, List.set_cons_zero, List.set_cons_succ]
                refine takeH (i := 3) (v := ?_) rfl (by kernel_rfl) (by kernel_rfl) (by kernel_rfl) (fun _ _ _ h => h) (some 104) rfl (Or.inl ⟨by rfl, ?_⟩) (by assumption) ?_
                rotate_left 1
                · intro wz hSw
                  go_simp
                  try with_reducible rfl
                simp only [Act.put, List.setIfInBounds_toArray, List.set_cons_zero, List.set_cons_succ]
                refine takeH (i := 4) (v := ?_) rfl (by kernel_rfl) (by kernel_rfl) (by kernel_rfl) (fun _ _ _ h => h) (some 105) rfl (Or.inl ⟨by rfl, ?_⟩) (by assumption) ?_
                rotate_left 1
                · intro wz hSw
                  have c1 : wz.cell? ⟨p, 1, none⟩ = some (.int .i64 (l : Int)) := by rw [← HL.out]; exact hSw.cell 1
                  have c2 : wz.cell? ⟨p, 2, none⟩ = some (.int .i64 (k : Int)) := by rw [← HKK.out]; exact hSw.cell 2
                  go_simp
                  try with_reducible rfl
                simp only [Act.put, List.setIfInBounds_toArray, List.set_cons_zero, List.set_cons_succ]
                refine takeH (i := 6) (v := ?_) rfl (by kernel_rfl) (by kernel_rfl) (by kernel_rfl) (fun _ _ _ h => h) (some 107) rfl (Or.inl ⟨by rfl, ?_⟩) (by assumption) ?_
                rotate_left 1
                · intro wz hSw
                  go_simp
                  try with_reducible rfl
                simp only [Act.put, List.setIfInBounds_toArray, List.set_cons_zero, List.set_cons_succ]
                refine takeH (i := 7) (v := ?_) rfl (by kernel_rfl) (by kernel_rfl) (by kernel_rfl) (fun _ _ _ h => h) (some 108) rfl (Or.inl ⟨by rfl, ?_⟩) (by assumption) ?_
                rotate_left 1
                · intro wz hSw
                  have c1 : wz.cell? ⟨p, 1, none⟩ = some (.int .i64 (l : Int)) := by rw [← HL.out]; exact hSw.cell 1
                  have c2 : wz.cell? ⟨p, 2, none⟩ = some (.int .i64 (k : Int)) := by rw [← HKK.out]; exact hSw.cell 2
                  go_simp
                  try with_reducible rfl
                simp only [Act.put, List.setIfInBounds_toArray, List.set_cons_zero, List.set_cons_succ]
                refine wpAnyH_ready (rs := [2]) (by kernel_rfl) (by simp) ?_
                refine AllReadyH.cons rfl (fun KK hKK => ?_) AllReadyH.nil
                refine step_call4 (by rfl) 28 _ _ _ _ _ (by rfl) _ _ _ _ (by rfl) (by rfl) (by rfl) (by rfl) (fun _ _ => rfl) _ (HP1.out x0) (some 103) rfl ?_
                rintro e x1 ⟨rfl, hb⟩
                refine ⟨_, rfl, ?_⟩
                replace HB := Lib.hid (HB.out.trans (hb.mono HB.out.size)); replace HX := Lib.hid (HX.out.below hb HX.out.lt)
                clear hb
                refine hKK.out _ _ ?_ (fun hHeld => ?_)
                · exact HX.out
                clear hKK KK
                simp only [Act.put, List.setIfInBounds_toArray, List.set_cons_zero, List.set_cons_succ]
                refine wpAnyH_ready (rs := [5]) (by kernel_rfl) (by simp) ?_
                refine AllReadyH.cons rfl (fun KK hKK => ?_) AllReadyH.nil
                refine step_call4 (by rfl) 28 _ _ _ _ _ (by rfl) _ _ _ _ (by rfl) (by rfl) (by rfl) (by rfl) (fun _ _ => rfl) _ (HP2.out x1) (some 106) rfl ?_
                rintro e x2 ⟨rfl, hb⟩
                refine ⟨_, rfl, ?_⟩
                replace HB := Lib.hid (HB.out.trans (hb.mono HB.out.size)); replace HX := Lib.hid (HX.out.below hb HX.out.lt)
                clear hb
                refine hKK.out _ _ ?_ (fun hHeld => ?_)
                · exact HX.out
                clear hKK KK
                simp only [Act.put, List.setIfInBounds_toArray, List.set_cons_zero, List.set_cons_succ]
                refine wpAnyH_ready (rs := [8]) (by kernel_rfl) (by simp) ?_
                refine AllReadyH.cons rfl (fun KK hKK => ?_) AllReadyH.nil
                refine step_call4 (by rfl) 28 _ _ _ _ _ (by rfl) _ _ _ _ (by rfl) (by rfl) (by rfl) (by rfl) (fun _ _ => rfl) _ (HP3.out x2) (some 109) rfl ?_
                rintro e x3 ⟨rfl, hb⟩
                refine ⟨_, rfl, ?_⟩
                replace HB := Lib.hid (HB.out.trans (hb.mono HB.out.size)); replace HX := Lib.hid (HX.out.below hb HX.out.lt)
                clear hb
                refine hKK.out _ _ ?_ (fun hHeld => ?_)
                · exact HX.out
                clear hKK KK
                simp only [Act.put, List.setIfInBounds_toArray, List.set_cons_zero, List.set_cons_succ]
                refine takeH (i := 9) (v := ?_) rfl (by kernel_rfl) (by kernel_rfl) (by kernel_rfl) (fun _ _ _ h => h) (some 6) rfl (Or.inl ⟨by rfl, ?_⟩) (by assumption) ?_
                rotate_left 1
                · intro wz hSw
                  go_simp
                  try with_reducible rfl
                simp only [Act.put, List.setIfInBounds_toArray, List.set_cons_zero, List.set_cons_succ]
                refine wpAnyH_done (by kernel_rfl) ?_ _
                clear hHeld
                go_wp2_with (fail)
                go_meet
                exact ⟨by rw [HE.out], HTT.out, HX.out, HB.out⟩
            · as_aux_lemma =>
                obtain rfl : m = 9 := by rw [HM.out, HNB.out]; rfl
                have HZ0 := Lib.hid (show (zeroS 42 9).size = 10 from zeroS_size _ _)
                obtain ⟨s0, hs0⟩ : ∃ z, z = zeroS 42 9 := ⟨_, rfl⟩
                rw [← hs0] at HZ0 ⊢
                have HS0 := Lib.hid hs0
                clear hs0
                have HP1 := Lib.hid (fun v => refPut_any s0 1 fl 1 v (by rw [HZ0.out]; decide) (by decide) (by decide) (by rw [HZ0.out]; decide) HFB.out)
                obtain ⟨s1, hs1⟩ : ∃ z, z = put s0 1 fl 1 := ⟨_, rfl⟩
                rw [← hs1] at HP1
                have HZ1 := Lib.hid (show s1.size = 10 by rw [hs1]; exact pz (by decide) (by decide) HZ0.out (by decide))
                have HS1 := Lib.hid hs1
                clear hs1
                have HP2 := Lib.hid (fun v => refPut_any s1 2 l 4 v (by rw [HZ1.out]; decide) (by decide) (by decide) (by rw [HZ1.out]; decide) (by have := HLB.out; omega))
                obtain ⟨s2, hs2⟩ : ∃ z, z = put s1 2 l 4 := ⟨_, rfl⟩
                rw [← hs2] at HP2
                have HZ2 := Lib.hid (show s2.size = 10 by rw [hs2]; exact pz (by decide) (by decide) HZ1.out (by decide))
                have HS2 := Lib.hid hs2
                clear hs2
                have HP3 := Lib.hid (fun v => refPut_any s2 7 k 2 v (by rw [HZ2.out]; decide) (by decide) (by decide) (by rw [HZ2.out]; decide) (by have := HLB.out; omega))
                obtain ⟨s3, hs3⟩ : ∃ z, z = put s2 7 k 2 := ⟨_, rfl⟩
                rw [← hs3] at HP3
                have HZ3 := Lib.hid (show s3.size = 10 by rw [hs3]; exact pz (by decide) (by decide) HZ2.out (by decide))
                have HS3 := Lib.hid hs3
                clear hs3
                have HE := Lib.hid (show s3 = t by
                  rw [HT.out, HS3.out, HS2.out, HS1.out, HS0.out]
                  unfold makeS
                  rw [HFN.out]
                  dsimp only
                  rw [if_neg (show ¬ (42 = 18) by decide), if_pos (show 42 = 40 ∨ 42 = 42 by decide), ← HFL.out, HL.out, HKK.out, Int.toNat_natCast, Int.toNat_natCast]
                  rfl)
                have HTT := Lib.hid (show t.size ≤ 100000 by rw [← HE.out, HZ3.out]; decide)
                go_upto_region 20 with (fail)
                refine wp_region_held_drew (S := fun v => Blk v p 28 (akC x)) (by kernel_rfl) ?_ (fun hHeld => ?_)
                · exact HX.out.drew
                replace HB := Lib.hid HB.out.drew; replace HX := Lib.hid HX.out.drew
                generalize wc.drew = x0 at *
                refine takeH (i := 0) (v := ?_) rfl (by kernel_rfl) (by kernel_rfl) (by kernel_rfl) (fun _ _ _ h => h) (some 101) rfl (Or.inl ⟨by rfl, ?_⟩) (by assumption) ?_
                rotate_left 1
                · intro wz hSw
                  go_simp
                  try with_reducible rfl
                simp only [Act.put, List.setIfInBounds_toArray, List.set_cons_zero, List.set_cons_succ]
                refine takeH (i := 1) (v := ?_) rfl (by kernel_rfl) (by kernel_rfl) (by kernel_rfl) (fun _ _ _ h => h) (some 102) rfl (Or.inl ⟨by rfl, ?_⟩) (by assumption) ?_
                rotate_left 1
                · intro wz hSw
                  go_simp
                  try with_reducible rfl
                simp only [Act.put, List.setIfInBounds_toArray, List.set_cons_zero, List.set_cons_succ]
                refine takeH (i := 3) (v := ?_) rfl (by kernel_rfl) (by kernel_rfl) (by kernel_rfl) (fun _ _ _ h => h) (some 104) rfl (Or.inl ⟨by rfl, ?_⟩) (by assumption) ?_
                rotate_left 1
                · intro wz hSw
                  go_simp
                  try with_reducible rfl
                simp only [Act.put, List.setIfInBounds_toArray, List.set_cons_zero, List.set_cons_succ]
                refine takeH (i := 4) (v := ?_) rfl (by kernel_rfl) (by kernel_rfl) (by kernel_rfl) (fun _ _ _ h => h) (some 105) rfl (Or.inl ⟨by rfl, ?_⟩) (by assumption) ?_
                rotate_left 1
                · intro wz hSw
                  have c1 : wz.cell? ⟨p, 1, none⟩ = some (.int .i64 (l : Int)) := by rw [← HL.out]; exact hSw.cell 1
                  have c2 : wz.cell? ⟨p, 2, none⟩ = some (.int .i64 (k : Int)) := by rw [← HKK.out]; exact hSw.cell 2
                  go_simp
                  try with_reducible rfl
                simp only [Act.put, List.setIfInBounds_toArray, List.set_cons_zero, List.set_cons_succ]
                refine takeH (i := 6) (v := ?_) rfl (by kernel_rfl) (by kernel_rfl) (by kernel_rfl) (fun _ _ _ h => h) (some 107) rfl (Or.inl ⟨by rfl, ?_⟩) (by assumption) ?_
                rotate_left 1
                · intro wz hSw
                  go_simp
                  try with_reducible rfl
                simp only [Act.put, List.setIfInBounds_toArray, List.set_cons_zero, List.set_cons_succ]
                refine takeH (i := 7) (v := ?_) rfl (by kernel_rfl) (by kernel_rfl) (by kernel_rfl) (fun _ _ _ h => h) (some 108) rfl (Or.inl ⟨by rfl, ?_⟩) (by assumption) ?_
                rotate_left 1
                · intro wz hSw
                  have c1 : wz.cell? ⟨p, 1, none⟩ = some (.int .i64 (l : Int)) := by rw [← HL.out]; exact hSw.cell 1
                  have c2 : wz.cell? ⟨p, 2, none⟩ = some (.int .i64 (k : Int)) := by rw [← HKK.out]; exact hSw.cell 2
                  go_simp
                  try with_reducible rfl
                simp only [Act.put, List.setIfInBounds_toArray, List.set_cons_zero, List.set_cons_succ]
                refine wpAnyH_ready (rs := [2]) (by kernel_rfl) (by simp) ?_
                refine AllReadyH.cons rfl (fun KK hKK => ?_) AllReadyH.nil
                refine step_call4 (by rfl) 28 _ _ _ _ _ (by rfl) _ _ _ _ (by rfl) (by rfl) (by rfl) (by rfl) (fun _ _ => rfl) _ (HP1.out x0) (some 103) rfl ?_
                rintro e x1 ⟨rfl, hb⟩
                refine ⟨_, rfl, ?_⟩
                replace HB := Lib.hid (HB.out.trans (hb.mono HB.out.size)); replace HX := Lib.hid (HX.out.below hb HX.out.lt)
                clear hb
                refine hKK.out _ _ ?_ (fun hHeld => ?_)
                · exact HX.out
                clear hKK KK
                simp only [Act.put, List.setIfInBounds_toArray, List.set_cons_zero, List.set_cons_succ]
                refine wpAnyH_ready (rs := [5]) (by kernel_rfl) (by simp) ?_
                refine AllReadyH.cons rfl (fun KK hKK => ?_) AllReadyH.nil
                refine step_call4 (by rfl) 28 _ _ _ _ _ (by rfl) _ _ _ _ (by rfl) (by rfl) (by rfl) (by rfl) (fun _ _ => rfl) _ (HP2.out x1) (some 106) rfl ?_
                rintro e x2 ⟨rfl, hb⟩
                refine ⟨_, rfl, ?_⟩
                replace HB := Lib.hid (HB.out.trans (hb.mono HB.out.size)); replace HX := Lib.hid (HX.out.below hb HX.out.lt)
                clear hb
                refine hKK.out _ _ ?_ (fun hHeld => ?_)
                · exact HX.out
                clear hKK KK
                simp only [Act.put, List.setIfInBounds_toArray, List.set_cons_zero, List.set_cons_succ]
                refine wpAnyH_ready (rs := [8]) (by kernel_rfl) (by simp) ?_
                refine AllReadyH.cons rfl (fun KK hKK => ?_) AllReadyH.nil
                refine step_call4 (by rfl) 28 _ _ _ _ _ (by rfl) _ _ _ _ (by rfl) (by rfl) (by rfl) (by rfl) (fun _ _ => rfl) _ (HP3.out x2) (some 109) rfl ?_
                rintro e x3 ⟨rfl, hb⟩
                refine ⟨_, rfl, ?_⟩
                replace HB := Lib.hid (HB.out.trans (hb.mono HB.out.size)); replace HX := Lib.hid (HX.out.below hb HX.out.lt)
                clear hb
                refine hKK.out _ _ ?_ (fun hHeld => ?_)
                · exact HX.out
                clear hKK KK
                simp only [Act.put, List.setIfInBounds_toArray, List.set_cons_zero, List.set_cons_succ]
                refine takeH (i := 9) (v := ?_) rfl (by kernel_rfl) (by kernel_rfl) (by kernel_rfl) (fun _ _ _ h => h) (some 6) rfl (Or.inl ⟨by rfl, ?_⟩) (by assumption) ?_
                rotate_left 1
                · intro wz hSw
                  go_simp
                  try with_reducible rfl
                simp only [Act.put, List.setIfInBounds_toArray, List.set_cons_zero, List.set_cons_succ]
                refine wpAnyH_done (by kernel_rfl) ?_ _
                clear hHeld
                go_wp2_with (fail)
                go_meet
                exact ⟨by rw [HE.out], HTT.out, HX.out, HB.out⟩
            · as_aux_lemma =>
                obtain rfl : m = 5 := by rw [HM.out, HNB.out]; rfl
                by_cases h4 : 256 ≤ pg
                · skip
                  have q4 : (256 : Int) ≤ (pg : Int) := by omega
                  obtain ⟨pq, hpq⟩ : ∃ pq, pq = pg - 256 := ⟨_, rfl⟩
                  have hwp : IntKind.i64.wrap ((pg : Int) - 256) = (pq : Int) := by rw [IntWalk.i64_in _ (by have := HLB.out; omega)]; omega
                  have hpq4 : pq < 1099511627776 := by have := HLB.out; omega
                  have HPQ := Lib.hid (show (x.page - 256).toNat = pq by rw [HPG.out]; omega)
                  have HQ4 := Lib.hid (show (256 : Int) ≤ x.page by rw [HPG.out]; exact q4)
                  clear hpq h4
                  have HZ0 := Lib.hid (show (zeroS 18 5).size = 6 from zeroS_size _ _)
                  obtain ⟨s0, hs0⟩ : ∃ z, z = zeroS 18 5 := ⟨_, rfl⟩
                  rw [← hs0] at HZ0 ⊢
                  have HS0 := Lib.hid hs0
                  clear hs0
                  have HP1 := Lib.hid (fun v => refPut_any s0 1 1 1 v (by rw [HZ0.out]; decide) (by decide) (by decide) (by rw [HZ0.out]; decide) (by decide))
                  obtain ⟨s1, hs1⟩ : ∃ z, z = put s0 1 1 1 := ⟨_, rfl⟩
                  rw [← hs1] at HP1
                  have HZ1 := Lib.hid (show s1.size = 6 by rw [hs1]; exact pz (by decide) (by decide) HZ0.out (by decide))
                  have HS1 := Lib.hid hs1
                  clear hs1
                  have HP2 := Lib.hid (fun v => refPut_any s1 2 pq 1 v (by rw [HZ1.out]; decide) (by decide) (by decide) (by rw [HZ1.out]; decide) hpq4)
                  obtain ⟨s2, hs2⟩ : ∃ z, z = put s1 2 pq 1 := ⟨_, rfl⟩
                  rw [← hs2] at HP2
                  have HZ2 := Lib.hid (show s2.size = 6 by rw [hs2]; exact pz (by decide) (by decide) HZ1.out (by decide))
                  have HS2 := Lib.hid hs2
                  clear hs2
                  have HP3 := Lib.hid (fun v => refPut_any s2 3 wt 2 v (by rw [HZ2.out]; decide) (by decide) (by decide) (by rw [HZ2.out]; decide) (by have := HLB.out; omega))
                  obtain ⟨s3, hs3⟩ : ∃ z, z = put s2 3 wt 2 := ⟨_, rfl⟩
                  rw [← hs3] at HP3
                  have HZ3 := Lib.hid (show s3.size = 6 by rw [hs3]; exact pz (by decide) (by decide) HZ2.out (by decide))
                  have HS3 := Lib.hid hs3
                  clear hs3
                  have HE := Lib.hid (show s3 = t by
                    rw [HT.out, HS3.out, HS2.out, HS1.out, HS0.out]
                    unfold makeS
                    rw [HFN.out]
                    dsimp only
                    rw [if_pos (show 18 = 18 by decide), if_pos HQ4.out, HPQ.out, HWT.out, Int.toNat_natCast]
                    rfl)
                  have HTT := Lib.hid (show t.size ≤ 100000 by rw [← HE.out, HZ3.out]; decide)
                  have c4 : wc.cell? ⟨p, 4, none⟩ = some (.int .i64 (pg : Int)) := by rw [← HPG.out]; exact HX.out.cell 4
                  go_upto_region 16 with (fail)
                  clear c4
                  refine wp_region_held_drew (S := fun v => Blk v p 28 (akC x)) (by kernel_rfl) ?_ (fun hHeld => ?_)
                  · exact HX.out.drew
                  replace HB := Lib.hid HB.out.drew; replace HX := Lib.hid HX.out.drew
                  generalize wc.drew = x0 at *
                  refine takeH (i := 0) (v := ?_) rfl (by kernel_rfl) (by kernel_rfl) (by kernel_rfl) (fun _ _ _ h => h) (some 88) rfl (Or.inl ⟨by rfl, ?_⟩) (by assumption) ?_
                  rotate_left 1
                  · intro wz hSw
                    go_simp
                    try with_reducible rfl
                  simp only [Act.put, List.setIfInBounds_toArray, List.set_cons_zero, List.set_cons_succ]
                  refine takeH (i := 2) (v := ?_) rfl (by kernel_rfl) (by kernel_rfl) (by kernel_rfl) (fun _ _ _ h => h) (some 90) rfl (Or.inl ⟨by rfl, ?_⟩) (by assumption) ?_
                  rotate_left 1
                  · intro wz hSw
                    go_simp
                    try with_reducible rfl
                  simp only [Act.put, List.setIfInBounds_toArray, List.set_cons_zero, List.set_cons_succ]
                  refine takeH (i := 3) (v := ?_) rfl (by kernel_rfl) (by kernel_rfl) (by kernel_rfl) (fun _ _ _ h => h) (some 91) rfl (Or.inl ⟨by rfl, ?_⟩) (by assumption) ?_
                  rotate_left 1
                  · intro wz hSw
                    have c4 : wz.cell? ⟨p, 4, none⟩ = some (.int .i64 (pg : Int)) := by rw [← HPG.out]; exact hSw.cell 4
                    go_simp
                    try with_reducible rfl
                  simp only [Act.put, List.setIfInBounds_toArray, List.set_cons_zero, List.set_cons_succ]
                  refine takeH (i := 4) (v := ?_) rfl (by kernel_rfl) (by kernel_rfl) (by kernel_rfl) (fun _ _ _ h => h) (some 92) rfl (Or.inl ⟨by rfl, ?_⟩) (by assumption) ?_
                  rotate_left 1
                  · intro wz hSw
                    go_simp
                    try with_reducible rfl
                  simp only [Act.put, List.setIfInBounds_toArray, List.set_cons_zero, List.set_cons_succ]
                  refine wpAnyH_ready (rs := [1]) (by kernel_rfl) (by simp) ?_
                  refine AllReadyH.cons rfl (fun KK hKK => ?_) AllReadyH.nil
                  refine step_call4 (by rfl) 28 _ _ _ _ _ (by rfl) _ _ _ _ (by rfl) (by rfl) (by rfl) (by rfl) (fun _ _ => rfl) _ (HP1.out x0) (some 89) rfl ?_
                  rintro e x1 ⟨rfl, hb⟩
                  refine ⟨_, rfl, ?_⟩
                  replace HB := Lib.hid (HB.out.trans (hb.mono HB.out.size)); replace HX := Lib.hid (HX.out.below hb HX.out.lt)
                  clear hb
                  refine hKK.out _ _ ?_ (fun hHeld => ?_)
                  · exact HX.out
                  clear hKK KK
                  simp only [Act.put, List.setIfInBounds_toArray, List.set_cons_zero, List.set_cons_succ]
                  refine wpAnyH_ready (rs := [5]) (by kernel_rfl) (by simp) ?_
                  refine AllReadyH.cons rfl (fun KK hKK => ?_) AllReadyH.nil
                  refine step_call4 (by rfl) 28 _ _ _ _ _ (by rfl) _ _ _ _ (by rfl) (by rfl) (by rfl) (by rfl) (fun _ _ => rfl) _ (HP2.out x1) (some 93) rfl ?_
                  rintro e x2 ⟨rfl, hb⟩
                  refine ⟨_, rfl, ?_⟩
                  replace HB := Lib.hid (HB.out.trans (hb.mono HB.out.size)); replace HX := Lib.hid (HX.out.below hb HX.out.lt)
                  clear hb
                  refine hKK.out _ _ ?_ (fun hHeld => ?_)
                  · exact HX.out
                  clear hKK KK
                  simp only [Act.put, List.setIfInBounds_toArray, List.set_cons_zero, List.set_cons_succ]
                  refine takeH (i := 6) (v := ?_) rfl (by kernel_rfl) (by kernel_rfl) (by kernel_rfl) (fun _ _ _ h => h) (some 6) rfl (Or.inl ⟨by rfl, ?_⟩) (by assumption) ?_
                  rotate_left 1
                  · intro wz hSw
                    go_simp
                    try with_reducible rfl
                  simp only [Act.put, List.setIfInBounds_toArray, List.set_cons_zero, List.set_cons_succ]
                  refine wpAnyH_done (by kernel_rfl) ?_ _
                  clear hHeld
                  go_upto_region 17 with (fail)
                  have c5 : x2.cell? ⟨p, 5, none⟩ = some (.int .i64 (wt : Int)) := by rw [← HWT.out]; exact HX.out.cell 5
                  go_wp2_with (fail)
                  refine (HP3.out x2).mono ?_; rintro e v5 ⟨rfl, hb⟩
                  replace HB := Lib.hid (HB.out.trans (hb.mono HB.out.size)); replace HX := Lib.hid (HX.out.below hb HX.out.lt); clear hb c5
                  go_wp2_with (fail)
                  go_meet
                  exact ⟨by rw [HE.out], HTT.out, HX.out, HB.out⟩
                · skip
                  have q4 : ¬ (256 : Int) ≤ (pg : Int) := by omega
                  have HQ4 := Lib.hid (show ¬ (256 : Int) ≤ x.page by rw [HPG.out]; exact q4)
                  clear h4
                  have HZ0 := Lib.hid (show (zeroS 18 5).size = 6 from zeroS_size _ _)
                  obtain ⟨s0, hs0⟩ : ∃ z, z = zeroS 18 5 := ⟨_, rfl⟩
                  rw [← hs0] at HZ0 ⊢
                  have HS0 := Lib.hid hs0
                  clear hs0
                  have HP1 := Lib.hid (fun v => refPut_any s0 3 wt 2 v (by rw [HZ0.out]; decide) (by decide) (by decide) (by rw [HZ0.out]; decide) (by have := HLB.out; omega))
                  obtain ⟨s1, hs1⟩ : ∃ z, z = put s0 3 wt 2 := ⟨_, rfl⟩
                  rw [← hs1] at HP1
                  have HZ1 := Lib.hid (show s1.size = 6 by rw [hs1]; exact pz (by decide) (by decide) HZ0.out (by decide))
                  have HS1 := Lib.hid hs1
                  clear hs1
                  have HE := Lib.hid (show s1 = t by
                    rw [HT.out, HS1.out, HS0.out]
                    unfold makeS
                    rw [HFN.out]
                    dsimp only
                    rw [if_pos (show 18 = 18 by decide), if_neg HQ4.out, HWT.out, Int.toNat_natCast]
                    rfl)
                  have HTT := Lib.hid (show t.size ≤ 100000 by rw [← HE.out, HZ1.out]; decide)
                  have c4 : wc.cell? ⟨p, 4, none⟩ = some (.int .i64 (pg : Int)) := by rw [← HPG.out]; exact HX.out.cell 4
                  go_upto_region 17 with (fail)
                  clear c4
                  have c5 : wc.cell? ⟨p, 5, none⟩ = some (.int .i64 (wt : Int)) := by rw [← HWT.out]; exact HX.out.cell 5
                  go_wp2_with (fail)
                  refine (HP1.out wc).mono ?_; rintro e v5 ⟨rfl, hb⟩
                  replace HB := Lib.hid (HB.out.trans (hb.mono HB.out.size)); replace HX := Lib.hid (HX.out.below hb HX.out.lt); clear hb c5
                  go_wp2_with (fail)
                  go_meet
                  exact ⟨by rw [HE.out], HTT.out, HX.out, HB.out⟩
            · as_aux_lemma =>
                obtain rfl : m = 15 := by rw [HM.out, HNB.out]; rfl
                have HZ0 := Lib.hid (show (zeroS 136 15).size = 16 from zeroS_size _ _)
                obtain ⟨s0, hs0⟩ : ∃ z, z = zeroS 136 15 := ⟨_, rfl⟩
                rw [← hs0] at HZ0 ⊢
                have HS0 := Lib.hid hs0
                clear hs0
                have HP1 := Lib.hid (fun v => refPut_any s0 1 fl 1 v (by rw [HZ0.out]; decide) (by decide) (by decide) (by rw [HZ0.out]; decide) HFB.out)
                obtain ⟨s1, hs1⟩ : ∃ z, z = put s0 1 fl 1 := ⟨_, rfl⟩
                rw [← hs1] at HP1
                have HZ1 := Lib.hid (show s1.size = 16 by rw [hs1]; exact pz (by decide) (by decide) HZ0.out (by decide))
                have HS1 := Lib.hid hs1
                clear hs1
                have HP2 := Lib.hid (fun v => refPut_any s1 2 l 8 v (by rw [HZ1.out]; decide) (by decide) (by decide) (by rw [HZ1.out]; decide) (by have := HLB.out; omega))
                obtain ⟨s2, hs2⟩ : ∃ z, z = put s1 2 l 8 := ⟨_, rfl⟩
                rw [← hs2] at HP2
                have HZ2 := Lib.hid (show s2.size = 16 by rw [hs2]; exact pz (by decide) (by decide) HZ1.out (by decide))
                have HS2 := Lib.hid hs2
                clear hs2
                have HP3 := Lib.hid (fun v => refPut_any s2 10 k 4 v (by rw [HZ2.out]; decide) (by decide) (by decide) (by rw [HZ2.out]; decide) (by have := HLB.out; omega))
                obtain ⟨s3, hs3⟩ : ∃ z, z = put s2 10 k 4 := ⟨_, rfl⟩
                rw [← hs3] at HP3
                have HZ3 := Lib.hid (show s3.size = 16 by rw [hs3]; exact pz (by decide) (by decide) HZ2.out (by decide))
                have HS3 := Lib.hid hs3
                clear hs3
                have HE := Lib.hid (show s3 = t by
                  rw [HT.out, HS3.out, HS2.out, HS1.out, HS0.out]
                  unfold makeS
                  rw [HFN.out]
                  dsimp only
                  rw [if_neg (show ¬ (136 = 18) by decide), if_neg (show ¬ (136 = 40 ∨ 136 = 42) by decide), if_pos (show 136 = 136 ∨ 136 = 138 by decide), ← HFL.out, HL.out, HKK.out, Int.toNat_natCast, Int.toNat_natCast]
                  rfl)
                have HTT := Lib.hid (show t.size ≤ 100000 by rw [← HE.out, HZ3.out]; decide)
                go_upto_region 23 with (fail)
                refine wp_region_held_drew (S := fun v => Blk v p 28 (akC x)) (by kernel_rfl) ?_ (fun hHeld => ?_)
                · exact HX.out.drew
                replace HB := Lib.hid HB.out.drew; replace HX := Lib.hid HX.out.drew
                generalize wc.drew = x0 at *
                refine takeH (i := 0) (v := ?_) rfl (by kernel_rfl) (by kernel_rfl) (by kernel_rfl) (fun _ _ _ h => h) (some 113) rfl (Or.inl ⟨by rfl, ?_⟩) (by assumption) ?_
                rotate_left 1
                · intro wz hSw
                  go_simp
                  try with_reducible rfl
                simp only [Act.put, List.setIfInBounds_toArray, List.set_cons_zero, List.set_cons_succ]
                refine takeH (i := 1) (v := ?_) rfl (by kernel_rfl) (by kernel_rfl) (by kernel_rfl) (fun _ _ _ h => h) (some 114) rfl (Or.inl ⟨by rfl, ?_⟩) (by assumption) ?_
                rotate_left 1
                · intro wz hSw
                  go_simp
                  try with_reducible rfl
                simp only [Act.put, List.setIfInBounds_toArray, List.set_cons_zero, List.set_cons_succ]
                refine takeH (i := 3) (v := ?_) rfl (by kernel_rfl) (by kernel_rfl) (by kernel_rfl) (fun _ _ _ h => h) (some 116) rfl (Or.inl ⟨by rfl, ?_⟩) (by assumption) ?_
                rotate_left 1
                · intro wz hSw
                  go_simp
                  try with_reducible rfl
                simp only [Act.put, List.setIfInBounds_toArray, List.set_cons_zero, List.set_cons_succ]
                refine takeH (i := 4) (v := ?_) rfl (by kernel_rfl) (by kernel_rfl) (by kernel_rfl) (fun _ _ _ h => h) (some 117) rfl (Or.inl ⟨by rfl, ?_⟩) (by assumption) ?_
                rotate_left 1
                · intro wz hSw
                  have c1 : wz.cell? ⟨p, 1, none⟩ = some (.int .i64 (l : Int)) := by rw [← HL.out]; exact hSw.cell 1
                  have c2 : wz.cell? ⟨p, 2, none⟩ = some (.int .i64 (k : Int)) := by rw [← HKK.out]; exact hSw.cell 2
                  go_simp
                  try with_reducible rfl
                simp only [Act.put, List.setIfInBounds_toArray, List.set_cons_zero, List.set_cons_succ]
                refine takeH (i := 6) (v := ?_) rfl (by kernel_rfl) (by kernel_rfl) (by kernel_rfl) (fun _ _ _ h => h) (some 119) rfl (Or.inl ⟨by rfl, ?_⟩) (by assumption) ?_
                rotate_left 1
                · intro wz hSw
                  go_simp
                  try with_reducible rfl
                simp only [Act.put, List.setIfInBounds_toArray, List.set_cons_zero, List.set_cons_succ]
                refine takeH (i := 7) (v := ?_) rfl (by kernel_rfl) (by kernel_rfl) (by kernel_rfl) (fun _ _ _ h => h) (some 120) rfl (Or.inl ⟨by rfl, ?_⟩) (by assumption) ?_
                rotate_left 1
                · intro wz hSw
                  have c1 : wz.cell? ⟨p, 1, none⟩ = some (.int .i64 (l : Int)) := by rw [← HL.out]; exact hSw.cell 1
                  have c2 : wz.cell? ⟨p, 2, none⟩ = some (.int .i64 (k : Int)) := by rw [← HKK.out]; exact hSw.cell 2
                  go_simp
                  try with_reducible rfl
                simp only [Act.put, List.setIfInBounds_toArray, List.set_cons_zero, List.set_cons_succ]
                refine wpAnyH_ready (rs := [2]) (by kernel_rfl) (by simp) ?_
                refine AllReadyH.cons rfl (fun KK hKK => ?_) AllReadyH.nil
                refine step_call4 (by rfl) 28 _ _ _ _ _ (by rfl) _ _ _ _ (by rfl) (by rfl) (by rfl) (by rfl) (fun _ _ => rfl) _ (HP1.out x0) (some 115) rfl ?_
                rintro e x1 ⟨rfl, hb⟩
                refine ⟨_, rfl, ?_⟩
                replace HB := Lib.hid (HB.out.trans (hb.mono HB.out.size)); replace HX := Lib.hid (HX.out.below hb HX.out.lt)
                clear hb
                refine hKK.out _ _ ?_ (fun hHeld => ?_)
                · exact HX.out
                clear hKK KK
                simp only [Act.put, List.setIfInBounds_toArray, List.set_cons_zero, List.set_cons_succ]
                refine wpAnyH_ready (rs := [5]) (by kernel_rfl) (by simp) ?_
                refine AllReadyH.cons rfl (fun KK hKK => ?_) AllReadyH.nil
                refine step_call4 (by rfl) 28 _ _ _ _ _ (by rfl) _ _ _ _ (by rfl) (by rfl) (by rfl) (by rfl) (fun _ _ => rfl) _ (HP2.out x1) (some 118) rfl ?_
                rintro e x2 ⟨rfl, hb⟩
                refine ⟨_, rfl, ?_⟩
                replace HB := Lib.hid (HB.out.trans (hb.mono HB.out.size)); replace HX := Lib.hid (HX.out.below hb HX.out.lt)
                clear hb
                refine hKK.out _ _ ?_ (fun hHeld => ?_)
                · exact HX.out
                clear hKK KK
                simp only [Act.put, List.setIfInBounds_toArray, List.set_cons_zero, List.set_cons_succ]
                refine wpAnyH_ready (rs := [8]) (by kernel_rfl) (by simp) ?_
                refine AllReadyH.cons rfl (fun KK hKK => ?_) AllReadyH.nil
                refine step_call4 (by rfl) 28 _ _ _ _ _ (by rfl) _ _ _ _ (by rfl) (by rfl) (by rfl) (by rfl) (fun _ _ => rfl) _ (HP3.out x2) (some 121) rfl ?_
                rintro e x3 ⟨rfl, hb⟩
                refine ⟨_, rfl, ?_⟩
                replace HB := Lib.hid (HB.out.trans (hb.mono HB.out.size)); replace HX := Lib.hid (HX.out.below hb HX.out.lt)
                clear hb
                refine hKK.out _ _ ?_ (fun hHeld => ?_)
                · exact HX.out
                clear hKK KK
                simp only [Act.put, List.setIfInBounds_toArray, List.set_cons_zero, List.set_cons_succ]
                refine takeH (i := 9) (v := ?_) rfl (by kernel_rfl) (by kernel_rfl) (by kernel_rfl) (fun _ _ _ h => h) (some 6) rfl (Or.inl ⟨by rfl, ?_⟩) (by assumption) ?_
                rotate_left 1
                · intro wz hSw
                  go_simp
                  try with_reducible rfl
                simp only [Act.put, List.setIfInBounds_toArray, List.set_cons_zero, List.set_cons_succ]
                refine wpAnyH_done (by kernel_rfl) ?_ _
                clear hHeld
                go_wp2_with (fail)
                go_meet
                exact ⟨by rw [HE.out], HTT.out, HX.out, HB.out⟩
            · as_aux_lemma =>
                obtain rfl : m = 15 := by rw [HM.out, HNB.out]; rfl
                have HZ0 := Lib.hid (show (zeroS 138 15).size = 16 from zeroS_size _ _)
                obtain ⟨s0, hs0⟩ : ∃ z, z = zeroS 138 15 := ⟨_, rfl⟩
                rw [← hs0] at HZ0 ⊢
                have HS0 := Lib.hid hs0
                clear hs0
                have HP1 := Lib.hid (fun v => refPut_any s0 1 fl 1 v (by rw [HZ0.out]; decide) (by decide) (by decide) (by rw [HZ0.out]; decide) HFB.out)
                obtain ⟨s1, hs1⟩ : ∃ z, z = put s0 1 fl 1 := ⟨_, rfl⟩
                rw [← hs1] at HP1
                have HZ1 := Lib.hid (show s1.size = 16 by rw [hs1]; exact pz (by decide) (by decide) HZ0.out (by decide))
                have HS1 := Lib.hid hs1
                clear hs1
                have HP2 := Lib.hid (fun v => refPut_any s1 2 l 8 v (by rw [HZ1.out]; decide) (by decide) (by decide) (by rw [HZ1.out]; decide) (by have := HLB.out; omega))
                obtain ⟨s2, hs2⟩ : ∃ z, z = put s1 2 l 8 := ⟨_, rfl⟩
                rw [← hs2] at HP2
                have HZ2 := Lib.hid (show s2.size = 16 by rw [hs2]; exact pz (by decide) (by decide) HZ1.out (by decide))
                have HS2 := Lib.hid hs2
                clear hs2
                have HP3 := Lib.hid (fun v => refPut_any s2 10 k 4 v (by rw [HZ2.out]; decide) (by decide) (by decide) (by rw [HZ2.out]; decide) (by have := HLB.out; omega))
                obtain ⟨s3, hs3⟩ : ∃ z, z = put s2 10 k 4 := ⟨_, rfl⟩
                rw [← hs3] at HP3
                have HZ3 := Lib.hid (show s3.size = 16 by rw [hs3]; exact pz (by decide) (by decide) HZ2.out (by decide))
                have HS3 := Lib.hid hs3
                clear hs3
                have HE := Lib.hid (show s3 = t by
                  rw [HT.out, HS3.out, HS2.out, HS1.out, HS0.out]
                  unfold makeS
                  rw [HFN.out]
                  dsimp only
                  rw [if_neg (show ¬ (138 = 18) by decide), if_neg (show ¬ (138 = 40 ∨ 138 = 42) by decide), if_pos (show 138 = 136 ∨ 138 = 138 by decide), ← HFL.out, HL.out, HKK.out, Int.toNat_natCast, Int.toNat_natCast]
                  rfl)
                have HTT := Lib.hid (show t.size ≤ 100000 by rw [← HE.out, HZ3.out]; decide)
                go_upto_region 23 with (fail)
                refine wp_region_held_drew (S := fun v => Blk v p 28 (akC x)) (by kernel_rfl) ?_ (fun hHeld => ?_)
                · exact HX.out.drew
                replace HB := Lib.hid HB.out.drew; replace HX := Lib.hid HX.out.drew
                generalize wc.drew = x0 at *
                refine takeH (i := 0) (v := ?_) rfl (by kernel_rfl) (by kernel_rfl) (by kernel_rfl) (fun _ _ _ h => h) (some 113) rfl (Or.inl ⟨by rfl, ?_⟩) (by assumption) ?_
                rotate_left 1
                · intro wz hSw
                  go_simp
                  try with_reducible rfl
                simp only [Act.put, List.setIfInBounds_toArray, List.set_cons_zero, List.set_cons_succ]
                refine takeH (i := 1) (v := ?_) rfl (by kernel_rfl) (by kernel_rfl) (by kernel_rfl) (fun _ _ _ h => h) (some 114) rfl (Or.inl ⟨by rfl, ?_⟩) (by assumption) ?_
                rotate_left 1
                · intro wz hSw
                  go_simp
                  try with_reducible rfl
                simp only [Act.put, List.setIfInBounds_toArray, List.set_cons_zero, List.set_cons_succ]
                refine takeH (i := 3) (v := ?_) rfl (by kernel_rfl) (by kernel_rfl) (by kernel_rfl) (fun _ _ _ h => h) (some 116) rfl (Or.inl ⟨by rfl, ?_⟩) (by assumption) ?_
                rotate_left 1
                · intro wz hSw
                  go_simp
                  try with_reducible rfl
                simp only [Act.put, List.setIfInBounds_toArray, List.set_cons_zero, List.set_cons_succ]
                refine takeH (i := 4) (v := ?_) rfl (by kernel_rfl) (by kernel_rfl) (by kernel_rfl) (fun _ _ _ h => h) (some 117) rfl (Or.inl ⟨by rfl, ?_⟩) (by assumption) ?_
                rotate_left 1
                · intro wz hSw
                  have c1 : wz.cell? ⟨p, 1, none⟩ = some (.int .i64 (l : Int)) := by rw [← HL.out]; exact hSw.cell 1
                  have c2 : wz.cell? ⟨p, 2, none⟩ = some (.int .i64 (k : Int)) := by rw [← HKK.out]; exact hSw.cell 2
                  go_simp
                  try with_reducible rfl
                simp only [Act.put, List.setIfInBounds_toArray, List.set_cons_zero, List.set_cons_succ]
                refine takeH (i := 6) (v := ?_) rfl (by kernel_rfl) (by kernel_rfl) (by kernel_rfl) (fun _ _ _ h => h) (some 119) rfl (Or.inl ⟨by rfl, ?_⟩) (by assumption) ?_
                rotate_left 1
                · intro wz hSw
                  go_simp
                  try with_reducible rfl
                simp only [Act.put, List.setIfInBounds_toArray, List.set_cons_zero, List.set_cons_succ]
                refine takeH (i := 7) (v := ?_) rfl (by kernel_rfl) (by kernel_rfl) (by kernel_rfl) (fun _ _ _ h => h) (some 120) rfl (Or.inl ⟨by rfl, ?_⟩) (by assumption) ?_
                rotate_left 1
                · intro wz hSw
                  have c1 : wz.cell? ⟨p, 1, none⟩ = some (.int .i64 (l : Int)) := by rw [← HL.out]; exact hSw.cell 1
                  have c2 : wz.cell? ⟨p, 2, none⟩ = some (.int .i64 (k : Int)) := by rw [← HKK.out]; exact hSw.cell 2
                  go_simp
                  try with_reducible rfl
                simp only [Act.put, List.setIfInBounds_toArray, List.set_cons_zero, List.set_cons_succ]
                refine wpAnyH_ready (rs := [2]) (by kernel_rfl) (by simp) ?_
                refine AllReadyH.cons rfl (fun KK hKK => ?_) AllReadyH.nil
                refine step_call4 (by rfl) 28 _ _ _ _ _ (by rfl) _ _ _ _ (by rfl) (by rfl) (by rfl) (by rfl) (fun _ _ => rfl) _ (HP1.out x0) (some 115) rfl ?_
                rintro e x1 ⟨rfl, hb⟩
                refine ⟨_, rfl, ?_⟩
                replace HB := Lib.hid (HB.out.trans (hb.mono HB.out.size)); replace HX := Lib.hid (HX.out.below hb HX.out.lt)
                clear hb
                refine hKK.out _ _ ?_ (fun hHeld => ?_)
                · exact HX.out
                clear hKK KK
                simp only [Act.put, List.setIfInBounds_toArray, List.set_cons_zero, List.set_cons_succ]
                refine wpAnyH_ready (rs := [5]) (by kernel_rfl) (by simp) ?_
                refine AllReadyH.cons rfl (fun KK hKK => ?_) AllReadyH.nil
                refine step_call4 (by rfl) 28 _ _ _ _ _ (by rfl) _ _ _ _ (by rfl) (by rfl) (by rfl) (by rfl) (fun _ _ => rfl) _ (HP2.out x1) (some 118) rfl ?_
                rintro e x2 ⟨rfl, hb⟩
                refine ⟨_, rfl, ?_⟩
                replace HB := Lib.hid (HB.out.trans (hb.mono HB.out.size)); replace HX := Lib.hid (HX.out.below hb HX.out.lt)
                clear hb
                refine hKK.out _ _ ?_ (fun hHeld => ?_)
                · exact HX.out
                clear hKK KK
                simp only [Act.put, List.setIfInBounds_toArray, List.set_cons_zero, List.set_cons_succ]
                refine wpAnyH_ready (rs := [8]) (by kernel_rfl) (by simp) ?_
                refine AllReadyH.cons rfl (fun KK hKK => ?_) AllReadyH.nil
                refine step_call4 (by rfl) 28 _ _ _ _ _ (by rfl) _ _ _ _ (by rfl) (by rfl) (by rfl) (by rfl) (fun _ _ => rfl) _ (HP3.out x2) (some 121) rfl ?_
                rintro e x3 ⟨rfl, hb⟩
                refine ⟨_, rfl, ?_⟩
                replace HB := Lib.hid (HB.out.trans (hb.mono HB.out.size)); replace HX := Lib.hid (HX.out.below hb HX.out.lt)
                clear hb
                refine hKK.out _ _ ?_ (fun hHeld => ?_)
                · exact HX.out
                clear hKK KK
                simp only [Act.put, List.setIfInBounds_toArray, List.set_cons_zero, List.set_cons_succ]
                refine takeH (i := 9) (v := ?_) rfl (by kernel_rfl) (by kernel_rfl) (by kernel_rfl) (fun _ _ _ h => h) (some 6) rfl (Or.inl ⟨by rfl, ?_⟩) (by assumption) ?_
                rotate_left 1
                · intro wz hSw
                  go_simp
                  try with_reducible rfl
                simp only [Act.put, List.setIfInBounds_toArray, List.set_cons_zero, List.set_cons_succ]
                refine wpAnyH_done (by kernel_rfl) ?_ _
                clear hHeld
                go_wp2_with (fail)
                go_meet
                exact ⟨by rw [HE.out], HTT.out, HX.out, HB.out⟩
            · as_aux_lemma =>
                obtain rfl : m = 15 := by rw [HM.out, HNB.out]; rfl
                have HZ0 := Lib.hid (show (zeroS 147 15).size = 16 from zeroS_size _ _)
                obtain ⟨s0, hs0⟩ : ∃ z, z = zeroS 147 15 := ⟨_, rfl⟩
                rw [← hs0] at HZ0 ⊢
                have HS0 := Lib.hid hs0
                clear hs0
                have HP1 := Lib.hid (fun v => refPut_any s0 1 1 1 v (by rw [HZ0.out]; decide) (by decide) (by decide) (by rw [HZ0.out]; decide) (by decide))
                obtain ⟨s1, hs1⟩ : ∃ z, z = put s0 1 1 1 := ⟨_, rfl⟩
                rw [← hs1] at HP1
                have HZ1 := Lib.hid (show s1.size = 16 by rw [hs1]; exact pz (by decide) (by decide) HZ0.out (by decide))
                have HS1 := Lib.hid hs1
                clear hs1
                have HP2 := Lib.hid (fun v => refPut_any s1 2 l 8 v (by rw [HZ1.out]; decide) (by decide) (by decide) (by rw [HZ1.out]; decide) (by have := HLB.out; omega))
                obtain ⟨s2, hs2⟩ : ∃ z, z = put s1 2 l 8 := ⟨_, rfl⟩
                rw [← hs2] at HP2
                have HZ2 := Lib.hid (show s2.size = 16 by rw [hs2]; exact pz (by decide) (by decide) HZ1.out (by decide))
                have HS2 := Lib.hid hs2
                clear hs2
                have HP3 := Lib.hid (fun v => refPut_any s2 10 k 4 v (by rw [HZ2.out]; decide) (by decide) (by decide) (by rw [HZ2.out]; decide) (by have := HLB.out; omega))
                obtain ⟨s3, hs3⟩ : ∃ z, z = put s2 10 k 4 := ⟨_, rfl⟩
                rw [← hs3] at HP3
                have HZ3 := Lib.hid (show s3.size = 16 by rw [hs3]; exact pz (by decide) (by decide) HZ2.out (by decide))
                have HS3 := Lib.hid hs3
                clear hs3
                have HE := Lib.hid (show s3 = t by
                  rw [HT.out, HS3.out, HS2.out, HS1.out, HS0.out]
                  unfold makeS
                  rw [HFN.out]
                  dsimp only
                  rw [if_neg (show ¬ (147 = 18) by decide), if_neg (show ¬ (147 = 40 ∨ 147 = 42) by decide), if_neg (show ¬ (147 = 136 ∨ 147 = 138) by decide), if_pos (show 147 = 147 by decide), HL.out, HKK.out, Int.toNat_natCast, Int.toNat_natCast]
                  rfl)
                have HTT := Lib.hid (show t.size ≤ 100000 by rw [← HE.out, HZ3.out]; decide)
                go_upto_region 25 with (fail)
                refine wp_region_held_drew (S := fun v => Blk v p 28 (akC x)) (by kernel_rfl) ?_ (fun hHeld => ?_)
                · exact HX.out.drew
                replace HB := Lib.hid HB.out.drew; replace HX := Lib.hid HX.out.drew
                generalize wc.drew = x0 at *
                refine takeH (i := 0) (v := ?_) rfl (by kernel_rfl) (by kernel_rfl) (by kernel_rfl) (fun _ _ _ h => h) (some 124) rfl (Or.inl ⟨by rfl, ?_⟩) (by assumption) ?_
                rotate_left 1
                · intro wz hSw
                  go_simp
                  try with_reducible rfl
                simp only [Act.put, List.setIfInBounds_toArray, List.set_cons_zero, List.set_cons_succ]
                refine takeH (i := 2) (v := ?_) rfl (by kernel_rfl) (by kernel_rfl) (by kernel_rfl) (fun _ _ _ h => h) (some 126) rfl (Or.inl ⟨by rfl, ?_⟩) (by assumption) ?_
                rotate_left 1
                · intro wz hSw
                  go_simp
                  try with_reducible rfl
                simp only [Act.put, List.setIfInBounds_toArray, List.set_cons_zero, List.set_cons_succ]
                refine takeH (i := 3) (v := ?_) rfl (by kernel_rfl) (by kernel_rfl) (by kernel_rfl) (fun _ _ _ h => h) (some 127) rfl (Or.inl ⟨by rfl, ?_⟩) (by assumption) ?_
                rotate_left 1
                · intro wz hSw
                  have c1 : wz.cell? ⟨p, 1, none⟩ = some (.int .i64 (l : Int)) := by rw [← HL.out]; exact hSw.cell 1
                  have c2 : wz.cell? ⟨p, 2, none⟩ = some (.int .i64 (k : Int)) := by rw [← HKK.out]; exact hSw.cell 2
                  go_simp
                  try with_reducible rfl
                simp only [Act.put, List.setIfInBounds_toArray, List.set_cons_zero, List.set_cons_succ]
                refine takeH (i := 5) (v := ?_) rfl (by kernel_rfl) (by kernel_rfl) (by kernel_rfl) (fun _ _ _ h => h) (some 129) rfl (Or.inl ⟨by rfl, ?_⟩) (by assumption) ?_
                rotate_left 1
                · intro wz hSw
                  go_simp
                  try with_reducible rfl
                simp only [Act.put, List.setIfInBounds_toArray, List.set_cons_zero, List.set_cons_succ]
                refine takeH (i := 6) (v := ?_) rfl (by kernel_rfl) (by kernel_rfl) (by kernel_rfl) (fun _ _ _ h => h) (some 130) rfl (Or.inl ⟨by rfl, ?_⟩) (by assumption) ?_
                rotate_left 1
                · intro wz hSw
                  have c1 : wz.cell? ⟨p, 1, none⟩ = some (.int .i64 (l : Int)) := by rw [← HL.out]; exact hSw.cell 1
                  have c2 : wz.cell? ⟨p, 2, none⟩ = some (.int .i64 (k : Int)) := by rw [← HKK.out]; exact hSw.cell 2
                  go_simp
                  try with_reducible rfl
                simp only [Act.put, List.setIfInBounds_toArray, List.set_cons_zero, List.set_cons_succ]
                refine wpAnyH_ready (rs := [1]) (by kernel_rfl) (by simp) ?_
                refine AllReadyH.cons rfl (fun KK hKK => ?_) AllReadyH.nil
                refine step_call4 (by rfl) 28 _ _ _ _ _ (by rfl) _ _ _ _ (by rfl) (by rfl) (by rfl) (by rfl) (fun _ _ => rfl) _ (HP1.out x0) (some 125) rfl ?_
                rintro e x1 ⟨rfl, hb⟩
                refine ⟨_, rfl, ?_⟩
                replace HB := Lib.hid (HB.out.trans (hb.mono HB.out.size)); replace HX := Lib.hid (HX.out.below hb HX.out.lt)
                clear hb
                refine hKK.out _ _ ?_ (fun hHeld => ?_)
                · exact HX.out
                clear hKK KK
                simp only [Act.put, List.setIfInBounds_toArray, List.set_cons_zero, List.set_cons_succ]
                refine wpAnyH_ready (rs := [4]) (by kernel_rfl) (by simp) ?_
                refine AllReadyH.cons rfl (fun KK hKK => ?_) AllReadyH.nil
                refine step_call4 (by rfl) 28 _ _ _ _ _ (by rfl) _ _ _ _ (by rfl) (by rfl) (by rfl) (by rfl) (fun _ _ => rfl) _ (HP2.out x1) (some 128) rfl ?_
                rintro e x2 ⟨rfl, hb⟩
                refine ⟨_, rfl, ?_⟩
                replace HB := Lib.hid (HB.out.trans (hb.mono HB.out.size)); replace HX := Lib.hid (HX.out.below hb HX.out.lt)
                clear hb
                refine hKK.out _ _ ?_ (fun hHeld => ?_)
                · exact HX.out
                clear hKK KK
                simp only [Act.put, List.setIfInBounds_toArray, List.set_cons_zero, List.set_cons_succ]
                refine wpAnyH_ready (rs := [7]) (by kernel_rfl) (by simp) ?_
                refine AllReadyH.cons rfl (fun KK hKK => ?_) AllReadyH.nil
                refine step_call4 (by rfl) 28 _ _ _ _ _ (by rfl) _ _ _ _ (by rfl) (by rfl) (by rfl) (by rfl) (fun _ _ => rfl) _ (HP3.out x2) (some 131) rfl ?_
                rintro e x3 ⟨rfl, hb⟩
                refine ⟨_, rfl, ?_⟩
                replace HB := Lib.hid (HB.out.trans (hb.mono HB.out.size)); replace HX := Lib.hid (HX.out.below hb HX.out.lt)
                clear hb
                refine hKK.out _ _ ?_ (fun hHeld => ?_)
                · exact HX.out
                clear hKK KK
                simp only [Act.put, List.setIfInBounds_toArray, List.set_cons_zero, List.set_cons_succ]
                refine takeH (i := 8) (v := ?_) rfl (by kernel_rfl) (by kernel_rfl) (by kernel_rfl) (fun _ _ _ h => h) (some 6) rfl (Or.inl ⟨by rfl, ?_⟩) (by assumption) ?_
                rotate_left 1
                · intro wz hSw
                  go_simp
                  try with_reducible rfl
                simp only [Act.put, List.setIfInBounds_toArray, List.set_cons_zero, List.set_cons_succ]
                refine wpAnyH_done (by kernel_rfl) ?_ _
                clear hHeld
                go_wp2_with (fail)
                go_meet
                exact ⟨by rw [HE.out], HTT.out, HX.out, HB.out⟩
            · as_aux_lemma =>
                obtain rfl : m = 15 := by rw [HM.out, HNB.out]; rfl
                have HZ0 := Lib.hid (show (zeroS 137 15).size = 16 from zeroS_size _ _)
                obtain ⟨s0, hs0⟩ : ∃ z, z = zeroS 137 15 := ⟨_, rfl⟩
                rw [← hs0] at HZ0 ⊢
                have HS0 := Lib.hid hs0
                clear hs0
                have HP1 := Lib.hid (fun v => refPut_any s0 2 l 8 v (by rw [HZ0.out]; decide) (by decide) (by decide) (by rw [HZ0.out]; decide) (by have := HLB.out; omega))
                obtain ⟨s1, hs1⟩ : ∃ z, z = put s0 2 l 8 := ⟨_, rfl⟩
                rw [← hs1] at HP1
                have HZ1 := Lib.hid (show s1.size = 16 by rw [hs1]; exact pz (by decide) (by decide) HZ0.out (by decide))
                have HS1 := Lib.hid hs1
                clear hs1
                have HP2 := Lib.hid (fun v => refPut_any s1 13 k 1 v (by rw [HZ1.out]; decide) (by decide) (by decide) (by rw [HZ1.out]; decide) (by have := HLB.out; omega))
                obtain ⟨s2, hs2⟩ : ∃ z, z = put s1 13 k 1 := ⟨_, rfl⟩
                rw [← hs2] at HP2
                have HZ2 := Lib.hid (show s2.size = 16 by rw [hs2]; exact pz (by decide) (by decide) HZ1.out (by decide))
                have HS2 := Lib.hid hs2
                clear hs2
                have HE := Lib.hid (show s2 = t by
                  rw [HT.out, HS2.out, HS1.out, HS0.out]
                  unfold makeS
                  rw [HFN.out]
                  dsimp only
                  rw [if_neg (show ¬ (137 = 18) by decide), if_neg (show ¬ (137 = 40 ∨ 137 = 42) by decide), if_neg (show ¬ (137 = 136 ∨ 137 = 138) by decide), if_neg (show ¬ (137 = 147) by decide), if_pos (show 137 = 137 by decide), HL.out, HKK.out, Int.toNat_natCast, Int.toNat_natCast]
                  rfl)
                have HTT := Lib.hid (show t.size ≤ 100000 by rw [← HE.out, HZ2.out]; decide)
                go_upto_region 27 with (fail)
                refine wp_region_held_drew (S := fun v => Blk v p 28 (akC x)) (by kernel_rfl) ?_ (fun hHeld => ?_)
                · exact HX.out.drew
                replace HB := Lib.hid HB.out.drew; replace HX := Lib.hid HX.out.drew
                generalize wc.drew = x0 at *
                refine takeH (i := 0) (v := ?_) rfl (by kernel_rfl) (by kernel_rfl) (by kernel_rfl) (fun _ _ _ h => h) (some 134) rfl (Or.inl ⟨by rfl, ?_⟩) (by assumption) ?_
                rotate_left 1
                · intro wz hSw
                  go_simp
                  try with_reducible rfl
                simp only [Act.put, List.setIfInBounds_toArray, List.set_cons_zero, List.set_cons_succ]
                refine takeH (i := 1) (v := ?_) rfl (by kernel_rfl) (by kernel_rfl) (by kernel_rfl) (fun _ _ _ h => h) (some 135) rfl (Or.inl ⟨by rfl, ?_⟩) (by assumption) ?_
                rotate_left 1
                · intro wz hSw
                  go_simp
                  try with_reducible rfl
                simp only [Act.put, List.setIfInBounds_toArray, List.set_cons_zero, List.set_cons_succ]
                refine takeH (i := 2) (v := ?_) rfl (by kernel_rfl) (by kernel_rfl) (by kernel_rfl) (fun _ _ _ h => h) (some 136) rfl (Or.inl ⟨by rfl, ?_⟩) (by assumption) ?_
                rotate_left 1
                · intro wz hSw
                  have c1 : wz.cell? ⟨p, 1, none⟩ = some (.int .i64 (l : Int)) := by rw [← HL.out]; exact hSw.cell 1
                  have c2 : wz.cell? ⟨p, 2, none⟩ = some (.int .i64 (k : Int)) := by rw [← HKK.out]; exact hSw.cell 2
                  go_simp
                  try with_reducible rfl
                simp only [Act.put, List.setIfInBounds_toArray, List.set_cons_zero, List.set_cons_succ]
                refine takeH (i := 4) (v := ?_) rfl (by kernel_rfl) (by kernel_rfl) (by kernel_rfl) (fun _ _ _ h => h) (some 138) rfl (Or.inl ⟨by rfl, ?_⟩) (by assumption) ?_
                rotate_left 1
                · intro wz hSw
                  go_simp
                  try with_reducible rfl
                simp only [Act.put, List.setIfInBounds_toArray, List.set_cons_zero, List.set_cons_succ]
                refine takeH (i := 5) (v := ?_) rfl (by kernel_rfl) (by kernel_rfl) (by kernel_rfl) (fun _ _ _ h => h) (some 139) rfl (Or.inl ⟨by rfl, ?_⟩) (by assumption) ?_
                rotate_left 1
                · intro wz hSw
                  have c1 : wz.cell? ⟨p, 1, none⟩ = some (.int .i64 (l : Int)) := by rw [← HL.out]; exact hSw.cell 1
                  have c2 : wz.cell? ⟨p, 2, none⟩ = some (.int .i64 (k : Int)) := by rw [← HKK.out]; exact hSw.cell 2
                  go_simp
                  try with_reducible rfl
                simp only [Act.put, List.setIfInBounds_toArray, List.set_cons_zero, List.set_cons_succ]
                refine wpAnyH_ready (rs := [3]) (by kernel_rfl) (by simp) ?_
                refine AllReadyH.cons rfl (fun KK hKK => ?_) AllReadyH.nil
                refine step_call4 (by rfl) 28 _ _ _ _ _ (by rfl) _ _ _ _ (by rfl) (by rfl) (by rfl) (by rfl) (fun _ _ => rfl) _ (HP1.out x0) (some 137) rfl ?_
                rintro e x1 ⟨rfl, hb⟩
                refine ⟨_, rfl, ?_⟩
                replace HB := Lib.hid (HB.out.trans (hb.mono HB.out.size)); replace HX := Lib.hid (HX.out.below hb HX.out.lt)
                clear hb
                refine hKK.out _ _ ?_ (fun hHeld => ?_)
                · exact HX.out
                clear hKK KK
                simp only [Act.put, List.setIfInBounds_toArray, List.set_cons_zero, List.set_cons_succ]
                refine wpAnyH_ready (rs := [6]) (by kernel_rfl) (by simp) ?_
                refine AllReadyH.cons rfl (fun KK hKK => ?_) AllReadyH.nil
                refine step_call4 (by rfl) 28 _ _ _ _ _ (by rfl) _ _ _ _ (by rfl) (by rfl) (by rfl) (by rfl) (fun _ _ => rfl) _ (HP2.out x1) (some 140) rfl ?_
                rintro e x2 ⟨rfl, hb⟩
                refine ⟨_, rfl, ?_⟩
                replace HB := Lib.hid (HB.out.trans (hb.mono HB.out.size)); replace HX := Lib.hid (HX.out.below hb HX.out.lt)
                clear hb
                refine hKK.out _ _ ?_ (fun hHeld => ?_)
                · exact HX.out
                clear hKK KK
                simp only [Act.put, List.setIfInBounds_toArray, List.set_cons_zero, List.set_cons_succ]
                refine takeH (i := 7) (v := ?_) rfl (by kernel_rfl) (by kernel_rfl) (by kernel_rfl) (fun _ _ _ h => h) (some 6) rfl (Or.inl ⟨by rfl, ?_⟩) (by assumption) ?_
                rotate_left 1
                · intro wz hSw
                  go_simp
                  try with_reducible rfl
                simp only [Act.put, List.setIfInBounds_toArray, List.set_cons_zero, List.set_cons_succ]
                refine wpAnyH_done (by kernel_rfl) ?_ _
                clear hHeld
                go_wp2_with (fail)
                go_meet
                exact ⟨by rw [HE.out], HTT.out, HX.out, HB.out⟩
            · as_aux_lemma =>
                obtain rfl : m = 9 := by rw [HM.out, HNB.out]; rfl
                obtain ⟨on, hon⟩ : ∃ on : Nat, x.op = (on : Int) := ⟨x.op.toNat, by
                  have h := HFA.out
                  unfold firstA at h
                  split at h <;> omega⟩
                have HON := Lib.hid hon
                obtain ⟨r, hr⟩ : ∃ r, r = on % 32 := ⟨_, rfl⟩
                have r32 : r < 32 := by omega
                have hr1 : (on : Int).tmod 32 = (r : Int) := by rw [Int.tmod_eq_emod_of_nonneg (by omega)]; omega
                have hr2 : IntKind.i64.wrap ((on : Int).tmod 32) = (r : Int) := by rw [hr1]; exact IntWalk.i64_in _ (by omega)
                have hr3 : (on : Int) % 32 = (r : Int) := by omega
                have hr4 : IntKind.i64.wrap (r : Int) = (r : Int) := IntWalk.i64_in _ (by omega)
                have HRR := Lib.hid (show (x.op % 32).toNat = r by rw [hon]; omega)
                clear hon hr
                have HZ0 := Lib.hid (show (zeroS 94 9).size = 10 from zeroS_size _ _)
                obtain ⟨s0, hs0⟩ : ∃ z, z = zeroS 94 9 := ⟨_, rfl⟩
                rw [← hs0] at HZ0 ⊢
                have HS0 := Lib.hid hs0
                clear hs0
                have HP1 := Lib.hid (fun v => refPut_any s0 1 r 1 v (by rw [HZ0.out]; decide) (by decide) (by decide) (by rw [HZ0.out]; decide) (by omega))
                obtain ⟨s1, hs1⟩ : ∃ z, z = put s0 1 r 1 := ⟨_, rfl⟩
                rw [← hs1] at HP1
                have HZ1 := Lib.hid (show s1.size = 10 by rw [hs1]; exact pz (by decide) (by decide) HZ0.out (by decide))
                have HS1 := Lib.hid hs1
                clear hs1
                have HP2 := Lib.hid (fun v => refPut_any s1 7 wt 2 v (by rw [HZ1.out]; decide) (by decide) (by decide) (by rw [HZ1.out]; decide) (by have := HLB.out; omega))
                obtain ⟨s2, hs2⟩ : ∃ z, z = put s1 7 wt 2 := ⟨_, rfl⟩
                rw [← hs2] at HP2
                have HZ2 := Lib.hid (show s2.size = 10 by rw [hs2]; exact pz (by decide) (by decide) HZ1.out (by decide))
                have HS2 := Lib.hid hs2
                clear hs2
                have HE := Lib.hid (show s2 = t by
                  rw [HT.out, HS2.out, HS1.out, HS0.out]
                  unfold makeS
                  rw [HFN.out]
                  dsimp only
                  rw [if_neg (show ¬ (94 = 18) by decide), if_neg (show ¬ (94 = 40 ∨ 94 = 42) by decide), if_neg (show ¬ (94 = 136 ∨ 94 = 138) by decide), if_neg (show ¬ (94 = 147) by decide), if_neg (show ¬ (94 = 137) by decide), if_neg (show ¬ (94 = 66) by decide), if_neg (show ¬ (94 = 160) by decide), if_pos (show 94 = 94 by decide), HRR.out, HWT.out, Int.toNat_natCast]
                  rfl)
                have HTT := Lib.hid (show t.size ≤ 100000 by rw [← HE.out, HZ2.out]; decide)
                go_upto_region 33 with (fail)
                refine wp_region_held_drew (S := fun v => Blk v p 28 (akC x)) (by kernel_rfl) ?_ (fun hHeld => ?_)
                · exact HX.out.drew
                replace HB := Lib.hid HB.out.drew; replace HX := Lib.hid HX.out.drew
                generalize wc.drew = x0 at *
                refine takeH (i := 0) (v := ?_) rfl (by kernel_rfl) (by kernel_rfl) (by kernel_rfl) (fun _ _ _ h => h) (some 155) rfl (Or.inl ⟨by rfl, ?_⟩) (by assumption) ?_
                rotate_left 1
                · intro wz hSw
                  go_simp
                  try with_reducible rfl
                simp only [Act.put, List.setIfInBounds_toArray, List.set_cons_zero, List.set_cons_succ]
                refine takeH (i := 1) (v := ?_) rfl (by kernel_rfl) (by kernel_rfl) (by kernel_rfl) (fun _ _ _ h => h) (some 156) rfl (Or.inl ⟨by rfl, ?_⟩) (by assumption) ?_
                rotate_left 1
                · intro wz hSw
                  go_simp
                  try with_reducible rfl
                simp only [Act.put, List.setIfInBounds_toArray, List.set_cons_zero, List.set_cons_succ]
                refine takeH (i := 2) (v := ?_) rfl (by kernel_rfl) (by kernel_rfl) (by kernel_rfl) (fun _ _ _ h => h) (some 157) rfl (Or.inl ⟨by rfl, ?_⟩) (by assumption) ?_
                rotate_left 1
                · intro wz hSw
                  have c0 : wz.cell? ⟨p, 0, none⟩ = some (.int .i64 (on : Int)) := by rw [← HON.out]; exact hSw.cell 0
                  have c5 : wz.cell? ⟨p, 5, none⟩ = some (.int .i64 (wt : Int)) := by rw [← HWT.out]; exact hSw.cell 5
                  go_simp
                  try with_reducible rfl
                simp only [Act.put, List.setIfInBounds_toArray, List.set_cons_zero, List.set_cons_succ]
                refine takeH (i := 3) (v := ?_) rfl (by kernel_rfl) (by kernel_rfl) (by kernel_rfl) (fun _ _ _ h => h) (some 158) rfl (Or.inl ⟨by rfl, ?_⟩) (by assumption) ?_
                rotate_left 1
                · intro wz hSw
                  go_simp
                  try with_reducible rfl
                simp only [Act.put, List.setIfInBounds_toArray, List.set_cons_zero, List.set_cons_succ]
                refine takeH (i := 5) (v := ?_) rfl (by kernel_rfl) (by kernel_rfl) (by kernel_rfl) (fun _ _ _ h => h) (some 160) rfl (Or.inl ⟨by rfl, ?_⟩) (by assumption) ?_
                rotate_left 1
                · intro wz hSw
                  go_simp
                  try with_reducible rfl
                simp only [Act.put, List.setIfInBounds_toArray, List.set_cons_zero, List.set_cons_succ]
                refine takeH (i := 6) (v := ?_) rfl (by kernel_rfl) (by kernel_rfl) (by kernel_rfl) (fun _ _ _ h => h) (some 161) rfl (Or.inl ⟨by rfl, ?_⟩) (by assumption) ?_
                rotate_left 1
                · intro wz hSw
                  have c0 : wz.cell? ⟨p, 0, none⟩ = some (.int .i64 (on : Int)) := by rw [← HON.out]; exact hSw.cell 0
                  have c5 : wz.cell? ⟨p, 5, none⟩ = some (.int .i64 (wt : Int)) := by rw [← HWT.out]; exact hSw.cell 5
                  go_simp
                  try with_reducible rfl
                simp only [Act.put, List.setIfInBounds_toArray, List.set_cons_zero, List.set_cons_succ]
                refine wpAnyH_ready (rs := [4]) (by kernel_rfl) (by simp) ?_
                refine AllReadyH.cons rfl (fun KK hKK => ?_) AllReadyH.nil
                refine step_call4 (by rfl) 28 _ _ _ _ _ (by rfl) _ _ _ _ (by rfl) (by rfl) (by rfl) (by rfl) (fun _ _ => rfl) _ (HP1.out x0) (some 159) rfl ?_
                rintro e x1 ⟨rfl, hb⟩
                refine ⟨_, rfl, ?_⟩
                replace HB := Lib.hid (HB.out.trans (hb.mono HB.out.size)); replace HX := Lib.hid (HX.out.below hb HX.out.lt)
                clear hb
                refine hKK.out _ _ ?_ (fun hHeld => ?_)
                · exact HX.out
                clear hKK KK
                simp only [Act.put, List.setIfInBounds_toArray, List.set_cons_zero, List.set_cons_succ]
                refine wpAnyH_ready (rs := [7]) (by kernel_rfl) (by simp) ?_
                refine AllReadyH.cons rfl (fun KK hKK => ?_) AllReadyH.nil
                refine step_call4 (by rfl) 28 _ _ _ _ _ (by rfl) _ _ _ _ (by rfl) (by rfl) (by rfl) (by rfl) (fun _ _ => rfl) _ (HP2.out x1) (some 162) rfl ?_
                rintro e x2 ⟨rfl, hb⟩
                refine ⟨_, rfl, ?_⟩
                replace HB := Lib.hid (HB.out.trans (hb.mono HB.out.size)); replace HX := Lib.hid (HX.out.below hb HX.out.lt)
                clear hb
                refine hKK.out _ _ ?_ (fun hHeld => ?_)
                · exact HX.out
                clear hKK KK
                simp only [Act.put, List.setIfInBounds_toArray, List.set_cons_zero, List.set_cons_succ]
                refine takeH (i := 8) (v := ?_) rfl (by kernel_rfl) (by kernel_rfl) (by kernel_rfl) (fun _ _ _ h => h) (some 6) rfl (Or.inl ⟨by rfl, ?_⟩) (by assumption) ?_
                rotate_left 1
                · intro wz hSw
                  go_simp
                  try with_reducible rfl
                simp only [Act.put, List.setIfInBounds_toArray, List.set_cons_zero, List.set_cons_succ]
                refine wpAnyH_done (by kernel_rfl) ?_ _
                clear hHeld
                go_wp2_with (fail)
                go_meet
                exact ⟨by rw [HE.out], HTT.out, HX.out, HB.out⟩
            · as_aux_lemma =>
                obtain rfl : m = 9 := by rw [HM.out, HNB.out]; rfl
                obtain ⟨on, hon⟩ : ∃ on : Nat, x.op = (on : Int) := ⟨x.op.toNat, by
                  have h := HFA.out
                  unfold firstA at h
                  split at h <;> omega⟩
                have HON := Lib.hid hon
                obtain ⟨r, hr⟩ : ∃ r, r = on % 32 := ⟨_, rfl⟩
                have r32 : r < 32 := by omega
                have hr1 : (on : Int).tmod 32 = (r : Int) := by rw [Int.tmod_eq_emod_of_nonneg (by omega)]; omega
                have hr2 : IntKind.i64.wrap ((on : Int).tmod 32) = (r : Int) := by rw [hr1]; exact IntWalk.i64_in _ (by omega)
                have hr3 : (on : Int) % 32 = (r : Int) := by omega
                have hr4 : IntKind.i64.wrap (r : Int) = (r : Int) := IntWalk.i64_in _ (by omega)
                have HRR := Lib.hid (show (x.op % 32).toNat = r by rw [hon]; omega)
                clear hon hr
                obtain ⟨nt, hnt⟩ : ∃ nt : Nat, numN x.ty = (nt : Int) ∧ nt < 100 := by
                  unfold numN
                  split
                  · exact ⟨1, rfl, by decide⟩
                  · split
                    · exact ⟨3, rfl, by decide⟩
                    · split
                      · exact ⟨(x.ty + 2).toNat, by omega, by omega⟩
                      · exact ⟨0, rfl, by decide⟩
                have HNU := Lib.hid (fun v => refNumN_any x.ty v)
                rw [hnt.1] at HNU
                have HNT := Lib.hid (show (numN x.ty).toNat = nt by rw [hnt.1]; rfl)
                have nt100 := hnt.2
                clear hnt
                have HZ0 := Lib.hid (show (zeroS 95 9).size = 10 from zeroS_size _ _)
                obtain ⟨s0, hs0⟩ : ∃ z, z = zeroS 95 9 := ⟨_, rfl⟩
                rw [← hs0] at HZ0 ⊢
                have HS0 := Lib.hid hs0
                clear hs0
                have HP1 := Lib.hid (fun v => refPut_any s0 1 r 1 v (by rw [HZ0.out]; decide) (by decide) (by decide) (by rw [HZ0.out]; decide) (by omega))
                obtain ⟨s1, hs1⟩ : ∃ z, z = put s0 1 r 1 := ⟨_, rfl⟩
                rw [← hs1] at HP1
                have HZ1 := Lib.hid (show s1.size = 10 by rw [hs1]; exact pz (by decide) (by decide) HZ0.out (by decide))
                have HS1 := Lib.hid hs1
                clear hs1
                have HP2 := Lib.hid (fun v => refPut_any s1 2 nt 1 v (by rw [HZ1.out]; decide) (by decide) (by decide) (by rw [HZ1.out]; decide) (by omega))
                obtain ⟨s2, hs2⟩ : ∃ z, z = put s1 2 nt 1 := ⟨_, rfl⟩
                rw [← hs2] at HP2
                have HZ2 := Lib.hid (show s2.size = 10 by rw [hs2]; exact pz (by decide) (by decide) HZ1.out (by decide))
                have HS2 := Lib.hid hs2
                clear hs2
                have HP3 := Lib.hid (fun v => refPut_any s2 5 wt 4 v (by rw [HZ2.out]; decide) (by decide) (by decide) (by rw [HZ2.out]; decide) (by have := HLB.out; omega))
                obtain ⟨s3, hs3⟩ : ∃ z, z = put s2 5 wt 4 := ⟨_, rfl⟩
                rw [← hs3] at HP3
                have HZ3 := Lib.hid (show s3.size = 10 by rw [hs3]; exact pz (by decide) (by decide) HZ2.out (by decide))
                have HS3 := Lib.hid hs3
                clear hs3
                have HE := Lib.hid (show s3 = t by
                  rw [HT.out, HS3.out, HS2.out, HS1.out, HS0.out]
                  unfold makeS
                  rw [HFN.out]
                  dsimp only
                  rw [if_neg (show ¬ (95 = 18) by decide), if_neg (show ¬ (95 = 40 ∨ 95 = 42) by decide), if_neg (show ¬ (95 = 136 ∨ 95 = 138) by decide), if_neg (show ¬ (95 = 147) by decide), if_neg (show ¬ (95 = 137) by decide), if_neg (show ¬ (95 = 66) by decide), if_neg (show ¬ (95 = 160) by decide), if_neg (show ¬ (95 = 94) by decide), if_pos (show 95 = 95 by decide), HRR.out, HNT.out, HWT.out, Int.toNat_natCast]
                  rfl)
                have HTT := Lib.hid (show t.size ≤ 100000 by rw [← HE.out, HZ3.out]; decide)
                go_upto_region 35 with (fail)
                refine wp_region_held_drew (S := fun v => Blk v p 28 (akC x)) (by kernel_rfl) ?_ (fun hHeld => ?_)
                · exact HX.out.drew
                replace HB := Lib.hid HB.out.drew; replace HX := Lib.hid HX.out.drew
                generalize wc.drew = x0 at *
                refine takeH (i := 0) (v := ?_) rfl (by kernel_rfl) (by kernel_rfl) (by kernel_rfl) (fun _ _ _ h => h) (some 165) rfl (Or.inl ⟨by rfl, ?_⟩) (by assumption) ?_
                rotate_left 1
                · intro wz hSw
                  go_simp
                  try with_reducible rfl
                simp only [Act.put, List.setIfInBounds_toArray, List.set_cons_zero, List.set_cons_succ]
                refine takeH (i := 1) (v := ?_) rfl (by kernel_rfl) (by kernel_rfl) (by kernel_rfl) (fun _ _ _ h => h) (some 166) rfl (Or.inl ⟨by rfl, ?_⟩) (by assumption) ?_
                rotate_left 1
                · intro wz hSw
                  go_simp
                  try with_reducible rfl
                simp only [Act.put, List.setIfInBounds_toArray, List.set_cons_zero, List.set_cons_succ]
                refine takeH (i := 2) (v := ?_) rfl (by kernel_rfl) (by kernel_rfl) (by kernel_rfl) (fun _ _ _ h => h) (some 167) rfl (Or.inl ⟨by rfl, ?_⟩) (by assumption) ?_
                rotate_left 1
                · intro wz hSw
                  have c0 : wz.cell? ⟨p, 0, none⟩ = some (.int .i64 (on : Int)) := by rw [← HON.out]; exact hSw.cell 0
                  have c5 : wz.cell? ⟨p, 5, none⟩ = some (.int .i64 (wt : Int)) := by rw [← HWT.out]; exact hSw.cell 5
                  have c6 : wz.cell? ⟨p, 6, none⟩ = some (.int .i64 x.ty) := hSw.cell 6
                  go_simp
                  try with_reducible rfl
                simp only [Act.put, List.setIfInBounds_toArray, List.set_cons_zero, List.set_cons_succ]
                refine takeH (i := 3) (v := ?_) rfl (by kernel_rfl) (by kernel_rfl) (by kernel_rfl) (fun _ _ _ h => h) (some 168) rfl (Or.inl ⟨by rfl, ?_⟩) (by assumption) ?_
                rotate_left 1
                · intro wz hSw
                  go_simp
                  try with_reducible rfl
                simp only [Act.put, List.setIfInBounds_toArray, List.set_cons_zero, List.set_cons_succ]
                refine takeH (i := 5) (v := ?_) rfl (by kernel_rfl) (by kernel_rfl) (by kernel_rfl) (fun _ _ _ h => h) (some 170) rfl (Or.inl ⟨by rfl, ?_⟩) (by assumption) ?_
                rotate_left 1
                · intro wz hSw
                  go_simp
                  try with_reducible rfl
                simp only [Act.put, List.setIfInBounds_toArray, List.set_cons_zero, List.set_cons_succ]
                refine takeH (i := 6) (v := ?_) rfl (by kernel_rfl) (by kernel_rfl) (by kernel_rfl) (fun _ _ _ h => h) (some 171) rfl (Or.inl ⟨by rfl, ?_⟩) (by assumption) ?_
                rotate_left 1
                · intro wz hSw
                  have c0 : wz.cell? ⟨p, 0, none⟩ = some (.int .i64 (on : Int)) := by rw [← HON.out]; exact hSw.cell 0
                  have c5 : wz.cell? ⟨p, 5, none⟩ = some (.int .i64 (wt : Int)) := by rw [← HWT.out]; exact hSw.cell 5
                  have c6 : wz.cell? ⟨p, 6, none⟩ = some (.int .i64 x.ty) := hSw.cell 6
                  go_simp
                  try with_reducible rfl
                simp only [Act.put, List.setIfInBounds_toArray, List.set_cons_zero, List.set_cons_succ]
                refine takeH (i := 9) (v := ?_) rfl (by kernel_rfl) (by kernel_rfl) (by kernel_rfl) (fun _ _ _ h => h) (some 174) rfl (Or.inl ⟨by rfl, ?_⟩) (by assumption) ?_
                rotate_left 1
                · intro wz hSw
                  go_simp
                  try with_reducible rfl
                simp only [Act.put, List.setIfInBounds_toArray, List.set_cons_zero, List.set_cons_succ]
                refine takeH (i := 10) (v := ?_) rfl (by kernel_rfl) (by kernel_rfl) (by kernel_rfl) (fun _ _ _ h => h) (some 175) rfl (Or.inl ⟨by rfl, ?_⟩) (by assumption) ?_
                rotate_left 1
                · intro wz hSw
                  have c0 : wz.cell? ⟨p, 0, none⟩ = some (.int .i64 (on : Int)) := by rw [← HON.out]; exact hSw.cell 0
                  have c5 : wz.cell? ⟨p, 5, none⟩ = some (.int .i64 (wt : Int)) := by rw [← HWT.out]; exact hSw.cell 5
                  have c6 : wz.cell? ⟨p, 6, none⟩ = some (.int .i64 x.ty) := hSw.cell 6
                  go_simp
                  try with_reducible rfl
                simp only [Act.put, List.setIfInBounds_toArray, List.set_cons_zero, List.set_cons_succ]
                refine wpAnyH_ready (rs := [4]) (by kernel_rfl) (by simp) ?_
                refine AllReadyH.cons rfl (fun KK hKK => ?_) AllReadyH.nil
                refine step_call4 (by rfl) 28 _ _ _ _ _ (by rfl) _ _ _ _ (by rfl) (by rfl) (by rfl) (by rfl) (fun _ _ => rfl) _ (HP1.out x0) (some 169) rfl ?_
                rintro e x1 ⟨rfl, hb⟩
                refine ⟨_, rfl, ?_⟩
                replace HB := Lib.hid (HB.out.trans (hb.mono HB.out.size)); replace HX := Lib.hid (HX.out.below hb HX.out.lt)
                clear hb
                refine hKK.out _ _ ?_ (fun hHeld => ?_)
                · exact HX.out
                clear hKK KK
                simp only [Act.put, List.setIfInBounds_toArray, List.set_cons_zero, List.set_cons_succ]
                refine wpAnyH_ready (rs := [7]) (by kernel_rfl) (by simp) ?_
                refine AllReadyH.cons rfl (fun KK hKK => ?_) AllReadyH.nil
                refine step_call1 (by rfl) 20 _ _ (by rfl) _ (by rfl) (fun _ _ => rfl) _ (HNU.out x1) (some 172) rfl ?_
                rintro e x2 ⟨rfl, hb⟩
                refine ⟨_, rfl, ?_⟩
                replace HB := Lib.hid (HB.out.trans (hb.mono HB.out.size)); replace HX := Lib.hid (HX.out.below hb HX.out.lt)
                clear hb
                refine hKK.out _ _ ?_ (fun hHeld => ?_)
                · exact HX.out
                clear hKK KK
                simp only [Act.put, List.setIfInBounds_toArray, List.set_cons_zero, List.set_cons_succ]
                refine wpAnyH_ready (rs := [8]) (by kernel_rfl) (by simp) ?_
                refine AllReadyH.cons rfl (fun KK hKK => ?_) AllReadyH.nil
                refine step_call4 (by rfl) 28 _ _ _ _ _ (by rfl) _ _ _ _ (by rfl) (by rfl) (by rfl) (by rfl) (fun _ _ => rfl) _ (HP2.out x2) (some 173) rfl ?_
                rintro e x3 ⟨rfl, hb⟩
                refine ⟨_, rfl, ?_⟩
                replace HB := Lib.hid (HB.out.trans (hb.mono HB.out.size)); replace HX := Lib.hid (HX.out.below hb HX.out.lt)
                clear hb
                refine hKK.out _ _ ?_ (fun hHeld => ?_)
                · exact HX.out
                clear hKK KK
                simp only [Act.put, List.setIfInBounds_toArray, List.set_cons_zero, List.set_cons_succ]
                refine wpAnyH_ready (rs := [11]) (by kernel_rfl) (by simp) ?_
                refine AllReadyH.cons rfl (fun KK hKK => ?_) AllReadyH.nil
                refine step_call4 (by rfl) 28 _ _ _ _ _ (by rfl) _ _ _ _ (by rfl) (by rfl) (by rfl) (by rfl) (fun _ _ => rfl) _ (HP3.out x3) (some 176) rfl ?_
                rintro e x4 ⟨rfl, hb⟩
                refine ⟨_, rfl, ?_⟩
                replace HB := Lib.hid (HB.out.trans (hb.mono HB.out.size)); replace HX := Lib.hid (HX.out.below hb HX.out.lt)
                clear hb
                refine hKK.out _ _ ?_ (fun hHeld => ?_)
                · exact HX.out
                clear hKK KK
                simp only [Act.put, List.setIfInBounds_toArray, List.set_cons_zero, List.set_cons_succ]
                refine takeH (i := 12) (v := ?_) rfl (by kernel_rfl) (by kernel_rfl) (by kernel_rfl) (fun _ _ _ h => h) (some 6) rfl (Or.inl ⟨by rfl, ?_⟩) (by assumption) ?_
                rotate_left 1
                · intro wz hSw
                  go_simp
                  try with_reducible rfl
                simp only [Act.put, List.setIfInBounds_toArray, List.set_cons_zero, List.set_cons_succ]
                refine wpAnyH_done (by kernel_rfl) ?_ _
                clear hHeld
                go_wp2_with (fail)
                go_meet
                exact ⟨by rw [HE.out], HTT.out, HX.out, HB.out⟩
          case rest =>
            obtain ⟨rfl, hT, hX, hB⟩ := hcut
            have HX := Lib.hid hX; have HB := Lib.hid hB
            clear hX hB
            have HTZ := Lib.hid hT
            clear hT
            cases hp : parseS t with
            | none =>
              as_aux_lemma =>
              have HNO := Lib.hid (bld_non (x := x) (by rw [← HT.out]; exact hp))
              have HPT : Hid (∀ v, Calls Tryd.prog 10 #[.string t] v fun e w' => e = .returned (.tuple #[akV zA, .int .i64 150]) ∧ Below v.heap.size v w') := Lib.hid (fun v => by have h := refParse_any t v HTZ.out; rw [hp] at h; exact h)
              clear hp
              go_wp2_with (fail)
              refine (HPT.out wc).mono ?_; rintro e v4 ⟨rfl, hb⟩
              replace HB := Lib.hid (HB.out.trans (hb.mono HB.out.size)); replace HX := Lib.hid (HX.out.below hb HX.out.lt); clear hb
              go_upto_region 37 with (fail)
              change Code.wp _ _ _ _ (v4.alloc (.cells (akC zA) 28))
              have hal := (Below.refl v4.heap.size v4).alloc (Nat.le_refl _) (.cells (akC zA) 28)
              have HY := Lib.hid (Blk.new v4 28 (akC zA)); replace HB := Lib.hid (HB.out.trans (hal.mono HB.out.size)); replace HX := Lib.hid (HX.out.below hal HX.out.lt)
              obtain ⟨r, hr⟩ : ∃ r, r = v4.heap.size := ⟨_, rfl⟩
              rw [← hr] at HY ⊢
              clear hal hr
              generalize v4.alloc (.cells (akC zA) 28) = v5 at *
              go_wp2_with (fail)
              go_ret2
              exact bld_out HNO.out rfl HB.out
            | some y =>
              as_aux_lemma =>
              have HPT : Hid (∀ v, Calls Tryd.prog 10 #[.string t] v fun e w' => e = .returned (.tuple #[akV y, .int .i64 0]) ∧ Below v.heap.size v w') := Lib.hid (fun v => by have h := refParse_any t v HTZ.out; rw [hp] at h; exact h)
              have HSM := Lib.hid (fun v => refSame_any x y v)
              have HHP := Lib.hid (show parseS (makeS x) = some y by rw [← HT.out]; exact hp)
              clear hp
              go_wp2_with (fail)
              refine (HPT.out wc).mono ?_; rintro e v4 ⟨rfl, hb⟩
              replace HB := Lib.hid (HB.out.trans (hb.mono HB.out.size)); replace HX := Lib.hid (HX.out.below hb HX.out.lt); clear hb
              go_upto_region 37 with (fail)
              change Code.wp _ _ _ _ (v4.alloc (.cells (akC y) 28))
              have hal := (Below.refl v4.heap.size v4).alloc (Nat.le_refl _) (.cells (akC y) 28)
              have HY := Lib.hid (Blk.new v4 28 (akC y)); replace HB := Lib.hid (HB.out.trans (hal.mono HB.out.size)); replace HX := Lib.hid (HX.out.below hal HX.out.lt)
              obtain ⟨r, hr⟩ : ∃ r, r = v4.heap.size := ⟨_, rfl⟩
              rw [← hr] at HY ⊢
              clear hal hr
              generalize v4.alloc (.cells (akC y) 28) = v5 at *
              have c0 : v5.cell? ⟨p, 0, none⟩ = some (.int .i64 x.op) := HX.out.cell 0
              have d0 : v5.cell? ⟨r, 0, none⟩ = some (.int .i64 y.op) := HY.out.cell 0
              have c1 : v5.cell? ⟨p, 1, none⟩ = some (.int .i64 x.lba) := HX.out.cell 1
              have d1 : v5.cell? ⟨r, 1, none⟩ = some (.int .i64 y.lba) := HY.out.cell 1
              have c2 : v5.cell? ⟨p, 2, none⟩ = some (.int .i64 x.blk) := HX.out.cell 2
              have d2 : v5.cell? ⟨r, 2, none⟩ = some (.int .i64 y.blk) := HY.out.cell 2
              have c3 : v5.cell? ⟨p, 3, none⟩ = some (.bool x.fu) := HX.out.cell 3
              have d3 : v5.cell? ⟨r, 3, none⟩ = some (.bool y.fu) := HY.out.cell 3
              have c4 : v5.cell? ⟨p, 4, none⟩ = some (.int .i64 x.page) := HX.out.cell 4
              have d4 : v5.cell? ⟨r, 4, none⟩ = some (.int .i64 y.page) := HY.out.cell 4
              have c5 : v5.cell? ⟨p, 5, none⟩ = some (.int .i64 x.want) := HX.out.cell 5
              have d5 : v5.cell? ⟨r, 5, none⟩ = some (.int .i64 y.want) := HY.out.cell 5
              have c6 : v5.cell? ⟨p, 6, none⟩ = some (.int .i64 x.ty) := HX.out.cell 6
              have d6 : v5.cell? ⟨r, 6, none⟩ = some (.int .i64 y.ty) := HY.out.cell 6
              go_wp2_with (fail)
              refine (HSM.out _).mono ?_; rintro e v6 ⟨rfl, hb⟩
              replace HB := Lib.hid (HB.out.trans (hb.mono HB.out.size))
              clear hb c0 d0 c1 d1 c2 d2 c3 d3 c4 d4 c5 d5 c6 d6
              cases hs : sameA x y with
              | false =>
                have HNO := Lib.hid (bld_dif HHP.out hs)
                clear hs
                go_wp2_with (fail)
                go_ret2
                exact bld_out HNO.out rfl HB.out
              | true =>
                have HYES := Lib.hid ((bld_sam HGD.out (by rw [HFN.out]; exact HNN.out) HHP.out hs).trans (by rw [← HT.out]))
                clear hs
                go_wp2_with (fail)
                go_ret2
                exact ⟨by rw [HYES.out]; rfl, HB.out⟩
end Go.Proofs.YtaachlijpgmjeaaDoor
