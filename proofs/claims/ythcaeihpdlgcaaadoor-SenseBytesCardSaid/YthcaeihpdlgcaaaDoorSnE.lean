/- What sense any bytes are: the document's Parse. -/
import Derived.Test.YthcaeihpdlgcaaaDoorSnD
import Derived.Test.YthcaeihpdlgcaaaDoorBack
import Derived.Laws.ResultCell
namespace Go.Proofs.YthcaeihpdlgcaaaDoor
open Go.RowKit
theorem results_sn1 {fn : Func} {p u : Tmp} (h : fn.results = #[.cell p 23, .tmp u]) (tmps : Array Value) (w : World) (g : Nat) (x : Sn) (hp : tmps.getD p undef = .pointer (some ⟨g, 0, none⟩)) (hg : Blk w g 23 (snC x)) :
    (results fn tmps).run Tryd.prog w = .ok (.tuple #[snV x, tmps.getD u undef]) w := by
  rw [results_cell_tmp h, hp]
  have := run_loadVar_row (P := Tryd.prog) w g 23 23 (snC x) (0, 0) _ hg Tryd.underlying23 rfl sn_info
  simp [asAddr, this, Result.andThen]
/-- What Parse answers. -/
def parV (o : Option Sn) : Value := .tuple #[snV (o.getD zN), .int .i64 (if o.isSome = true then 0 else 160)]
theorem par_len {s : ByteArray} (h : s.size ≠ 18) : parX s = none := by
  unfold parX
  rw [if_neg (fun hc => h hc.1)]
theorem par_may {s : ByteArray} (h : mayX (getS s) = false) : parX s = none := by
  unfold parX
  rw [if_neg (fun hc => by rw [h] at hc; exact absurd hc.2.1 (by decide))]
theorem par_dif {s : ByteArray} (h : bytS (getS s) ≠ s) : parX s = none := by
  unfold parX
  rw [if_neg (fun hc => h hc.2.2)]
theorem par_yes {s : ByteArray} (h : s.size = 18) (hm : mayX (getS s) = true) (hb : bytS (getS s) = s) : parX s = some (getS s) := by
  unfold parX
  rw [if_pos ⟨h, hm, hb⟩]
theorem below_only {B : Nat} {S : Nat → Prop} {w w' : World} (h : Only S w w') (hB : B ≤ w.heap.size) (hs : ∀ k, S k → B ≤ k) : Below B w w' :=
  ⟨h.os, h.tape, h.output, h.size, fun k hk => h.block k (by omega) (fun e => absurd (hs k e) (by omega))⟩
theorem setRow_only (w : World) (g : Nat) (cs : Array Value) : Only (fun k => k = g) w (w.setRow g cs) :=
  ⟨rfl, rfl, rfl, by simp [World.setRow], fun k _ hk => setRow_other w g k cs hk⟩
theorem toList_inj {a b : ByteArray} (h : a.toList = b.toList) : a = b := bytes_ext (by rw [← ByteArray.toList_eq, ← ByteArray.toList_eq]; exact h)
section
variable {P : Program} {ops : Array Oper} {o : Oper} {a : Act} {w : World} {K : Act → World → Prop} {Q : Exit → Act → World → Prop} {E : Prop}
theorem step_store (hw : Region.wanted o (yielded ops a.tmps) = true) (ty : TypeId) (x y : Operand) (ho : o.op = .store ty x y)
    (g : Nat) (cells : Array Value) (hx : a.eval x = .pointer (some ⟨g, 0, none⟩)) (hy : a.eval y = .agg cells)
    (t : TypeId) (old : Array Value) (hg : Blk w g t old) (hi : (P.info? ty).map (·.size) = some cells.size)
    (hold : old.size = cells.size) (h1 : cells.all (·.oneCell') = true)
    (d0 : Option Tmp) (hd0 : o.dst = d0) (h : ∀ v, Blk v g t cells → Only (fun k => k = g) w v → K (a.put d0 undef) v) : if Region.wanted o (yielded ops a.tmps) = true then Oper.wp P o a w K Q else E := by
  subst hd0
  rw [if_pos hw]
  exact wp_store_row ty x y ho g cells hx hy t old hg hi hold h1 (h _ (setRow_blk hg) (setRow_only w g cells))
end
set_option maxRecDepth 100000 in
set_option maxHeartbeats 16000000 in
theorem refParse_any (s : ByteArray) (w : World) : Calls Tryd.prog 11 #[.string s] w fun e w' => e = .returned (parV (parX s)) ∧ Below w.heap.size w w' := by
  have HR0 := Lib.hid (Blk.new w 23 (snC zN))
  have HB0 := Lib.hid ((Below.refl w.heap.size w).alloc (Nat.le_refl _) (.cells (snC zN) 23))
  by_cases h18 : s.size = 18
  · have q1 : ((s.size : Int) != 18) = false := by rw [bne_eq_false_iff_eq]; omega
    have hx0 := fun w => index_byt s 0 0 rfl (by omega) w
    have hx2 := fun w => index_byt s 2 2 rfl (by omega) w
    have hx12 := fun w => index_byt s 12 12 rfl (by omega) w
    have hx13 := fun w => index_byt s 13 13 rfl (by omega) w
    have l2 := byt_lt s 2
    have l12 := byt_lt s 12
    have l13 := byt_lt s 13
    have hw2 : IntKind.i64.wrap (byt s 2 : Int) = (byt s 2 : Int) := IntWalk.i64_in _ (by omega)
    have hw12 : IntKind.i64.wrap (byt s 12 : Int) = (byt s 12 : Int) := IntWalk.i64_in _ (by omega)
    have hw13 : IntKind.i64.wrap (byt s 13 : Int) = (byt s 13 : Int) := IntWalk.i64_in _ (by omega)
    have HBG := Lib.hid (fun v => refBig_any s 3 4 v (by unfold maxLen; omega))
    have hbig : bigR s 3 4 = big s 3 4 := bigR_yes (a := 3) (n := 4) (okB_yes (by omega))
    rw [hbig] at HBG
    have hblt := big_lt s 3 4
    have hwb : IntKind.i64.wrap (big s 3 4 : Int) = (big s 3 4 : Int) := IntWalk.i64_in _ (by have : (256 : Nat) ^ 4 = 4294967296 := rfl; omega)
    have HGS := Lib.hid (show getS s = ⟨byt s 2, byt s 12, byt s 13, if byt s 0 = 240 then (big s 3 4 : Int) else -1⟩ from rfl)
    have HNM := Lib.hid (par_may (s := s)); have HND := Lib.hid (par_dif (s := s)); have HYS := Lib.hid (par_yes (s := s) h18)
    have HBY := Lib.hid (fun v => refBytes_any (getS s) v)
    generalize getS s = gs at *
    generalize parX s = o at *
    generalize byt s 2 = b2 at *
    generalize byt s 12 = b12 at *
    generalize byt s 13 = b13 at *
    generalize byt s 0 = b0 at *
    generalize big s 3 4 = bg at *
    clear h18 hbig hblt
    go_enter Tryd.func11, Tryd.ntmps11
    go_upto_region 1 with (fail)
    change Code.wp _ _ _ _ (w.alloc (.cells (snC zN) 23))
    generalize w.alloc (.cells (snC zN) 23) = v0 at *
    obtain ⟨p, hp⟩ : ∃ p, p = w.heap.size := ⟨_, rfl⟩
    have HP := Lib.hid hp
    rw [← hp] at HR0 ⊢
    clear hp
    go_upto_region 3 with (fail)
    clear q1
    refine wp_region_held_drew (S := fun v => Blk v p 23 (snC zN)) (by kernel_rfl) ?_ (fun hHeld => ?_)
    · exact HR0.out.drew
    have HBd := Lib.hid HB0.out.drew; have HRd := Lib.hid HR0.out.drew
    generalize v0.drew = x0 at *
    refine takeH (i := 0) (v := ?_) rfl (by kernel_rfl) (by kernel_rfl) (by kernel_rfl) (fun _ _ _ h => h) (some 13) rfl (Or.inl ⟨by rfl, ?_⟩) (by assumption) ?_
    rotate_left 1
    · intro wz hSw
      go_simp
      try with_reducible rfl
    simp only [Act.put, List.setIfInBounds_toArray, List.set_cons_zero, List.set_cons_succ]
    refine takeH (i := 1) (v := ?_) rfl (by kernel_rfl) (by kernel_rfl) (by kernel_rfl) (fun _ _ _ h => h) (some 14) rfl (Or.inl ⟨by rfl, ?_⟩) (by assumption) ?_
    rotate_left 1
    · intro wz hSw
      go_simp
      try with_reducible rfl
    simp only [Act.put, List.setIfInBounds_toArray, List.set_cons_zero, List.set_cons_succ]
    refine takeH (i := 2) (v := ?_) rfl (by kernel_rfl) (by kernel_rfl) (by kernel_rfl) (fun _ _ _ h => h) (some 15) rfl (Or.inl ⟨by rfl, ?_⟩) (by assumption) ?_
    rotate_left 1
    · intro wz hSw
      go_simp
      try with_reducible rfl
    simp only [Act.put, List.setIfInBounds_toArray, List.set_cons_zero, List.set_cons_succ]
    refine takeH (i := 3) (v := ?_) rfl (by kernel_rfl) (by kernel_rfl) (by kernel_rfl) (fun _ _ _ h => h) (some 16) rfl (Or.inl ⟨by rfl, ?_⟩) (by assumption) ?_
    rotate_left 1
    · intro wz hSw
      go_simp
      try with_reducible rfl
    simp only [Act.put, List.setIfInBounds_toArray, List.set_cons_zero, List.set_cons_succ]
    refine takeH (i := 4) (v := ?_) rfl (by kernel_rfl) (by kernel_rfl) (by kernel_rfl) (fun _ _ _ h => h) (some 17) rfl (Or.inl ⟨by rfl, ?_⟩) (by assumption) ?_
    rotate_left 1
    · intro wz hSw
      go_simp
      try with_reducible rfl
    simp only [Act.put, List.setIfInBounds_toArray, List.set_cons_zero, List.set_cons_succ]
    refine takeH (i := 5) (v := ?_) rfl (by kernel_rfl) (by kernel_rfl) (by kernel_rfl) (fun _ _ _ h => h) (some 18) rfl (Or.inl ⟨by rfl, ?_⟩) (by assumption) ?_
    rotate_left 1
    · intro wz hSw
      go_simp
      try with_reducible rfl
    simp only [Act.put, List.setIfInBounds_toArray, List.set_cons_zero, List.set_cons_succ]
    refine takeH (i := 6) (v := ?_) rfl (by kernel_rfl) (by kernel_rfl) (by kernel_rfl) (fun _ _ _ h => h) (some 19) rfl (Or.inl ⟨by rfl, ?_⟩) (by assumption) ?_
    rotate_left 1
    · intro wz hSw
      go_simp
      try with_reducible rfl
    simp only [Act.put, List.setIfInBounds_toArray, List.set_cons_zero, List.set_cons_succ]
    refine takeH (i := 7) (v := ?_) rfl (by kernel_rfl) (by kernel_rfl) (by kernel_rfl) (fun _ _ _ h => h) (some 20) rfl (Or.inl ⟨by rfl, ?_⟩) (by assumption) ?_
    rotate_left 1
    · intro wz hSw
      go_simp
      try with_reducible rfl
    simp only [Act.put, List.setIfInBounds_toArray, List.set_cons_zero, List.set_cons_succ]
    refine takeH (i := 8) (v := ?_) rfl (by kernel_rfl) (by kernel_rfl) (by kernel_rfl) (fun _ _ _ h => h) (some 21) rfl (Or.inl ⟨by rfl, ?_⟩) (by assumption) ?_
    rotate_left 1
    · intro wz hSw
      go_simp
      try with_reducible rfl
    simp only [Act.put, List.setIfInBounds_toArray, List.set_cons_zero, List.set_cons_succ]
    refine takeH (i := 9) (v := ?_) rfl (by kernel_rfl) (by kernel_rfl) (by kernel_rfl) (fun _ _ _ h => h) (some 22) rfl (Or.inl ⟨by rfl, ?_⟩) (by assumption) ?_
    rotate_left 1
    · intro wz hSw
      go_simp
      try with_reducible rfl
    simp only [Act.put, List.setIfInBounds_toArray, List.set_cons_zero, List.set_cons_succ]
    refine wpAnyH_ready (rs := [10]) (by kernel_rfl) (by simp) ?_
    refine AllReadyH.cons rfl (fun KK hKK => ?_) AllReadyH.nil
    refine step_alloc (by rfl) (.pointer (some ⟨x0.heap.size, 0, none⟩)) (x0.alloc (.cells (snC zN) 23)) (by kernel_rfl) (some 4) rfl ?_
    refine hKK.out _ _ ?_ (fun hHeld => ?_)
    · exact (HRd.out.alloc _)
    clear hKK KK
    simp only [Act.put, List.setIfInBounds_toArray, List.set_cons_zero, List.set_cons_succ]
    change wpAnyH _ _ _ _ _ _ _ _ (x0.alloc (.cells (snC zN) 23))
    have hb := (Below.refl x0.heap.size x0).alloc (Nat.le_refl _) (.cells (snC zN) 23)
    have HYYx1 := Lib.hid (Blk.new x0 23 (snC zN))
    have HBx1 := Lib.hid (HBd.out.trans (hb.mono HBd.out.size))
    have HRx1 := Lib.hid (HRd.out.below hb HRd.out.lt)
    clear hb
    generalize x0.alloc (.cells (snC zN) 23) = x1 at *
    obtain ⟨g, hg⟩ : ∃ g, g = x0.heap.size := ⟨_, rfl⟩
    have HG := Lib.hid (show p < g by rw [hg]; exact HRd.out.lt)
    rw [← hg] at HYYx1 ⊢; clear hg
    refine wpAnyH_ready (rs := [11]) (by kernel_rfl) (by simp) ?_
    refine AllReadyH.cons rfl (fun KK hKK => ?_) AllReadyH.nil
    refine step_store (by rfl) 23 (.tmp 4) (.tmp 22) (by rfl) g (snC ⟨b2, b12, b13, -1⟩) (by rfl) (by rfl) 23 (snC zN) HYYx1.out sn_info rfl (by simp [Value.oneCell']) none rfl (fun vz hvz hoz => ?_)
    have hpg := HG.out
    have hpw := HP.out
    have HY := Lib.hid hvz; have HR := Lib.hid (HRx1.out.only hoz (by omega)); have HB := Lib.hid (HBx1.out.trans (below_only hoz HBx1.out.size (by rintro k rfl; omega)))
    refine hKK.out _ _ HR.out (fun hHeld => ?_)
    clear hKK KK hHeld hpg hpw hvz
    refine wpAnyH_done (by kernel_rfl) ?_ _
    have hv1 : vz = vz := rfl
    generalize vz = v1 at *
    clear hv1 hoz HBx1 HRx1 HYYx1 HBd HRd HB0 HR0
    clear hw2 hw12 hw13 hx2 hx12 hx13
    go_upto_if 25 with (fail)
    go_cut [5, 6] (fun _ _ wx => Blk wx g 23 (snC gs) ∧ Blk wx p 23 (snC zN) ∧ Below w.heap.size w wx)
    case first =>
      by_cases hb0 : b0 = 240
      · have hgs := HGS.out
        rw [if_pos hb0] at hgs
        have q2 : ((b0 : Int) == 240) = true := by rw [hb0]; rfl
        go_wp2_with (fail)
        refine (HBG.out v1).mono ?_; rintro e v2 ⟨rfl, rfl⟩
        have d3 : v1.cell? ⟨g, 3, none⟩ = some (.int .i64 (-1)) := HY.out.cell 3
        have e3 := HY.out.free 3
        go_wp2_with (fail)
        go_meet
        have hpg := HG.out
        exact ⟨by rw [hgs]; exact HY.out.put 3 (.int .i64 (bg : Int)), HR.out.far (p := ⟨g, 3, none⟩) (by dsimp only; omega) _, HB.out.setCell (p := ⟨g, 3, none⟩) (by have := HP.out; dsimp only; omega) _⟩
      · have hgs := HGS.out
        rw [if_neg hb0] at hgs
        have q2 : ((b0 : Int) == 240) = false := by rw [beq_eq_false_iff_ne]; omega
        go_wp2_with (fail)
        go_meet
        exact ⟨by rw [hgs]; exact HY.out, HR.out, HB.out⟩
    case rest =>
      obtain ⟨hY, hR, hB⟩ := hcut
      replace HR := Lib.hid hR; replace HB := Lib.hid hB; replace HY := Lib.hid hY
      clear hR hB hY HBG hwb hx0
      cases hm : mayX gs with
      | false =>
        have HNO := Lib.hid (HNM.out hm)
        rw [show bytX gs = none by unfold bytX; rw [hm]; rfl] at HBY
        have HBZ0 : Hid (∀ v, Calls Tryd.prog 9 #[snV gs] v fun e w' => e = .returned (.tuple #[.string ⟨#[]⟩, .int .i64 160]) ∧ Below v.heap.size v w') := Lib.hid (fun v => HBY.out v)
        clear hm HNM HND HYS HBY
        go_upto_region 7 with (fail)
        refine wp_region_lit ?_
        refine wpList_load_row rfl 23 (.tmp 4) rfl g rfl 23 (snC gs) (0, 0) _ HY.out Tryd.underlying23 rfl sn_info ?_
        go_wp2_with (fail)
        refine (HBZ0.out _).mono ?_; rintro e v5 ⟨rfl, hb⟩
        replace HB := Lib.hid (HB.out.trans (hb.mono HB.out.size)); replace HR := Lib.hid (HR.out.below hb HR.out.lt); replace HY := Lib.hid (HY.out.below hb HY.out.lt)
        clear hb
        go_upto_region 9 with (fail)
        refine wp_region_lit ?_
        refine wpList_runs rfl (some 46) rfl (snV zN) v5 (by kernel_rfl) ?_
        refine wpList_store_row rfl 23 (.tmp 2) (.tmp 46) rfl p (snC zN) rfl rfl 23 (snC zN) HR.out sn_info rfl (snC_one _) ?_
        have HZ := Lib.hid (setRow_blk (cs' := snC zN) HR.out)
        have HBZ := Lib.hid (below_setRow HB.out (by have := HP.out; omega) (snC zN) (g := p))
        generalize v5.setRow p (snC zN) = vz at *
        go_wp2_with (fail)
        refine bodyPost_ret_by (results_sn1 Tryd.results11 _ _ p zN rfl HZ.out) rfl ?_
        exact ⟨by rw [HNO.out]; rfl, HBZ.out⟩
      | true =>
        rw [show bytX gs = some (bytS gs) by unfold bytX; rw [hm]; rfl] at HBY
        by_cases hq : bytS gs = s
        · have HYES := Lib.hid (HYS.out hm hq)
          rw [hq] at HBY
          have HBZ0 : Hid (∀ v, Calls Tryd.prog 9 #[snV gs] v fun e w' => e = .returned (.tuple #[.string s, .int .i64 0]) ∧ Below v.heap.size v w') := Lib.hid (fun v => HBY.out v)
          clear hm hq HNM HND HYS HBY
          have q5 : (s.toList != s.toList) = false := by simp
          go_upto_region 7 with (fail)
          refine wp_region_lit ?_
          refine wpList_load_row rfl 23 (.tmp 4) rfl g rfl 23 (snC gs) (0, 0) _ HY.out Tryd.underlying23 rfl sn_info ?_
          go_wp2_with (fail)
          refine (HBZ0.out _).mono ?_; rintro e v5 ⟨rfl, hb⟩
          replace HB := Lib.hid (HB.out.trans (hb.mono HB.out.size)); replace HR := Lib.hid (HR.out.below hb HR.out.lt); replace HY := Lib.hid (HY.out.below hb HY.out.lt)
          clear hb
          go_upto_region 10 with (fail)
          refine wp_region_lit ?_
          refine wpList_load_row rfl 23 (.tmp 4) rfl g rfl 23 (snC gs) (0, 0) _ HY.out Tryd.underlying23 rfl sn_info ?_
          refine wpList_store_row rfl 23 (.tmp 2) (.tmp 47) rfl p (snC gs) rfl rfl 23 (snC zN) HR.out sn_info rfl (snC_one _) ?_
          have HZ := Lib.hid (setRow_blk (cs' := snC gs) HR.out)
          have HBZ := Lib.hid (below_setRow HB.out (by have := HP.out; omega) (snC gs) (g := p))
          generalize v5.setRow p (snC gs) = vz at *
          go_wp2_with (fail)
          refine bodyPost_ret_by (results_sn1 Tryd.results11 _ _ p gs rfl HZ.out) rfl ?_
          exact ⟨by rw [HYES.out]; rfl, HBZ.out⟩
        · have HNO := Lib.hid (HND.out hq)
          obtain ⟨t, ht⟩ : ∃ t, t = bytS gs := ⟨_, rfl⟩
          rw [← ht] at HBY hq
          have q5 : ¬ t.toList = s.toList := fun h => hq (toList_inj h)
          have q6 : (t.toList == s.toList) = false := by rw [beq_eq_false_iff_ne]; exact q5
          have HBZ0 : Hid (∀ v, Calls Tryd.prog 9 #[snV gs] v fun e w' => e = .returned (.tuple #[.string t, .int .i64 0]) ∧ Below v.heap.size v w') := Lib.hid (fun v => HBY.out v)
          clear hm hq HNM HND HYS ht HBY
          go_upto_region 7 with (fail)
          refine wp_region_lit ?_
          refine wpList_load_row rfl 23 (.tmp 4) rfl g rfl 23 (snC gs) (0, 0) _ HY.out Tryd.underlying23 rfl sn_info ?_
          go_wp2_with (fail)
          refine (HBZ0.out _).mono ?_; rintro e v5 ⟨rfl, hb⟩
          replace HB := Lib.hid (HB.out.trans (hb.mono HB.out.size)); replace HR := Lib.hid (HR.out.below hb HR.out.lt); replace HY := Lib.hid (HY.out.below hb HY.out.lt)
          clear hb
          go_upto_region 9 with (fail)
          refine wp_region_lit ?_
          refine wpList_runs rfl (some 46) rfl (snV zN) v5 (by kernel_rfl) ?_
          refine wpList_store_row rfl 23 (.tmp 2) (.tmp 46) rfl p (snC zN) rfl rfl 23 (snC zN) HR.out sn_info rfl (snC_one _) ?_
          have HZ := Lib.hid (setRow_blk (cs' := snC zN) HR.out)
          have HBZ := Lib.hid (below_setRow HB.out (by have := HP.out; omega) (snC zN) (g := p))
          generalize v5.setRow p (snC zN) = vz at *
          go_wp2_with (fail)
          refine bodyPost_ret_by (results_sn1 Tryd.results11 _ _ p zN rfl HZ.out) rfl ?_
          exact ⟨by rw [HNO.out]; rfl, HBZ.out⟩
  · have q1 : ((s.size : Int) != 18) = true := by rw [bne_iff_ne]; omega
    have HNO := Lib.hid (par_len h18)
    clear h18
    go_enter Tryd.func11, Tryd.ntmps11
    go_upto_region 1 with (fail)
    change Code.wp _ _ _ _ (w.alloc (.cells (snC zN) 23))
    generalize w.alloc (.cells (snC zN) 23) = v0 at *
    obtain ⟨p, hp⟩ : ∃ p, p = w.heap.size := ⟨_, rfl⟩
    have HP := Lib.hid hp
    rw [← hp] at HR0 ⊢
    clear hp
    have HR := HR0; have HB := HB0
    have hv5 : v0 = v0 := rfl
    generalize v0 = v5 at *
    clear hv5 HR0 HB0
    go_upto_region 2 with (fail)
    refine wp_region_lit ?_
    refine wpList_runs rfl (some 12) rfl (snV zN) v5 (by kernel_rfl) ?_
    refine wpList_store_row rfl 23 (.tmp 2) (.tmp 12) rfl p (snC zN) rfl rfl 23 (snC zN) HR.out sn_info rfl (snC_one _) ?_
    have HZ := Lib.hid (setRow_blk (cs' := snC zN) HR.out)
    have HBZ := Lib.hid (below_setRow HB.out (by have := HP.out; omega) (snC zN) (g := p))
    generalize v5.setRow p (snC zN) = vz at *
    go_wp2_with (fail)
    refine bodyPost_ret_by (results_sn1 Tryd.results11 _ _ p zN rfl HZ.out) rfl ?_
    exact ⟨by rw [HNO.out]; rfl, HBZ.out⟩
end Go.Proofs.YthcaeihpdlgcaaaDoor
