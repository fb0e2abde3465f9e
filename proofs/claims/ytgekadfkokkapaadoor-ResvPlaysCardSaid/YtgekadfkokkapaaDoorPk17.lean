/- A change worked on: operation 9. -/
import Derived.Test.YtgekadfkokkapaaDoorPk14
namespace Go.Proofs.YtgekadfkokkapaaDoor
open Go.RowKit
set_option maxRecDepth 100000 in
set_option maxHeartbeats 4000000 in
theorem do_op9 (A : Option Addr) (c : Nat) (t : Tl) (m : Cm) (w : World) (hl : Rgs w A t.rs) (hm : t.rs.length ≤ 1000) (hx : ∀ x ∈ t.rs, x.h.size ≤ 1000) (hh : t.ho.size ≤ 1000) (hs : m.ho.size ≤ 1000) (hrt : RTab w) (hop : m.op = 9) (hgt : goodB t = true) (hnm : nameB m.ho = true) :
    Calls Tryd.prog 22 #[tlV A c t, cmV m] w fun e w' => DoOut w t m e w' := by
  obtain ⟨h1, h2, h3⟩ := do_boxes w A c t m hl _ rfl
  have HD0 := Lib.hid h1; have HB0 := Lib.hid h2; have HN0 := Lib.hid (Nat.le_of_eq h3.symm)
  have HM := Lib.hid hm; have HX := Lib.hid hx; have HH := Lib.hid hh; have HS := Lib.hid hs; have HRT := Lib.hid hrt; have HL := Lib.hid hl
  have HOPN := Lib.hid hop; have HGT := Lib.hid hgt; have HNMT := Lib.hid hnm
  clear h1 h2 h3 hl hm hx hh hs hrt hop hgt hnm
  go_enter Tryd.func22, Tryd.ntmps22
  go_upto_region 1 with (fail)
  change Code.wp _ _ _ _ (((w.alloc (.cells (tlC A c t) 27)).alloc (.cells (cmC m) 37)).alloc (.cells tlZ 27))
  generalize ((w.alloc (.cells (tlC A c t) 27)).alloc (.cells (cmC m) 37)).alloc (.cells tlZ 27) = w0 at *
  rename_i KR hKR
  have HREST : ∀ (p : Nat) (A5 : Option Addr) (c5 : Nat) (v : World), (Blk v w.heap.size 27 (tlC A c t) ∧ Blk v (w.heap.size + 1) 37 (cmC m) ∧ Blk v (w.heap.size + 2) 27 tlZ) → Below w.heap.size w v → Chg v (w.heap.size + 3) p A5 c5 t m none 0 [] → KR ⟨#[tlV A c t, cmV m, .pointer (some ⟨w.heap.size, 0, none⟩), .pointer (some ⟨w.heap.size + 1, 0, none⟩), .pointer (some ⟨w.heap.size + 1 + 1, 0, none⟩), .slice none 0 0, .int .i64 0, .pointer (some ⟨p, 0, none⟩), undef, undef, undef, tlV A c t, tlV A5 c5 t, cmV m, .agg (chC A5 c5 t m none 0 []), undef, undef, undef, undef, undef, undef, undef, undef, undef, undef, undef, undef, undef, undef, undef, undef, undef, undef, undef, undef, undef, undef, undef, undef, undef, undef, undef, undef, undef], []⟩ v := by
    intro p A5 c5 v hst hbl hch
    apply hKR
    have HBX := Lib.hid hst; have HBL := Lib.hid hbl; have HCH := Lib.hid hch
    obtain ⟨fv, ok, hlk, hok, g8, g9, g10, g11, g12⟩ := eff_find m.op
    have hlk1 := hlk ((v.alloc (.map effM 5)).drew) v.heap.size (heap_alloc_new _ _)
    have hal := (Below.refl v.heap.size v).alloc (Nat.le_refl _) (.map effM 5)
    have d0 : v.cell? ⟨w.heap.size + 1, 0, none⟩ = some (.int .i64 m.op) := HBX.out.2.1.cell 0
    have d1 : (v.alloc (.map effM 5)).cell? ⟨w.heap.size + 1, 0, none⟩ = some (.int .i64 m.op) := (HBX.out.2.1.below hal HBX.out.2.1.lt).cell 0
    clear hst hbl hch hlk
    have HOK := Lib.hid hok; have HG := Lib.hid (And.intro g8 (And.intro g9 (And.intro g10 (And.intro g11 g12)))); have HAL := Lib.hid hal
    clear hok g8 g9 g10 g11 g12 hal
    go_upto_region 2 with (fail)
    rename_i K2 hK2
    have HREST2 : K2 ⟨#[tlV A c t, cmV m, .pointer (some ⟨w.heap.size, 0, none⟩), .pointer (some ⟨w.heap.size + 1, 0, none⟩), .pointer (some ⟨w.heap.size + 1 + 1, 0, none⟩), .slice none 0 0, .int .i64 0, .pointer (some ⟨p, 0, none⟩), fv, .bool ok, undef, tlV A c t, tlV A5 c5 t, cmV m, .agg (chC A5 c5 t m none 0 []), .tuple #[fv, .bool ok], .map (some v.heap.size), .pointer (some ⟨w.heap.size + 1, 0, none⟩), .int .i64 m.op, .tuple #[fv, .bool ok], fv, .bool ok, undef, undef, undef, undef, undef, undef, undef, undef, undef, undef, undef, undef, undef, undef, undef, undef, undef, undef, undef, undef, undef, undef], []⟩ ((v.alloc (.map effM 5)).drew) := by
      have hB2 := HAL.out.drew
      have HR := Lib.hid (bx_stays (⟨HBX.out.1, HBX.out.2.1, HBX.out.2.2⟩ : DoBx w.heap.size v A c t m) hB2)
      have HC := Lib.hid (HCH.out.below hB2)
      have HB := Lib.hid (HBL.out.trans (hB2.mono HBL.out.size))
      apply hK2
      clear d0 d1 hlk1 HAL hB2 HBX HCH HBL hK2 K2
      generalize (v.alloc (.map effM 5)).drew = v2 at *
      have hok : ok = true := by rw [HOK.out, HOPN.out]; rfl
      subst hok
      have hsel := HOPN.out
      have HDG := Lib.hid (show doG t m = true from doG_iff.2 ⟨⟨by omega, by omega⟩, goodB_iff.1 HGT.out, HNMT.out⟩)
      have HGD := Lib.hid (good_any A c t v2 (HL.out.below HB.out) (by have := HM.out; unfold maxLen; omega))
      rw [HGT.out] at HGD
      have HNM := Lib.hid (fun v => name_any m.ho v (by have := HS.out; unfold maxLen; omega))
      rw [HNMT.out] at HNM
      clear HOK
      have hfv := (HG.out.2.1) hsel
      have hdt : doT t m = resvT t m := by unfold doT; rw [if_pos HDG.out]; simp [hsel]
      have hde : doE t m = [] := by unfold doE; rw [if_pos HDG.out]; simp [hsel]
      have hdc : doC t m = resvCode t m := by unfold doC; rw [if_pos HDG.out]; simp [hsel]
      have HDT := Lib.hid hdt; have HDE := Lib.hid hde; have HDC := Lib.hid hdc
      clear hsel HG hdt hde hdc
      subst hfv
      have b0 : v2.cell? ⟨w.heap.size, 0, none⟩ = some (.slice A t.rs.length c) := HR.out.box.cell 0
      have b1 : v2.cell? ⟨w.heap.size, 1, none⟩ = some (.int .i64 t.ty) := HR.out.box.cell 1
      have b2 : v2.cell? ⟨w.heap.size, 2, none⟩ = some (.string t.ho) := HR.out.box.cell 2
      have b3 : v2.cell? ⟨w.heap.size, 3, none⟩ = some (.int .u32 t.ge) := HR.out.box.cell 3
      have b4 : v2.cell? ⟨w.heap.size, 4, none⟩ = some (.bool t.ap) := HR.out.box.cell 4
      go_wp2_with (fail)
      refine HGD.out.mono ?_; rintro e v3 ⟨rfl, hb3⟩
      replace HR := Lib.hid (bx_stays HR.out hb3)
      replace HC := Lib.hid (HC.out.below hb3)
      replace HB := Lib.hid (HB.out.trans (hb3.mono HB.out.size))
      clear hb3 b0 b1 b2 b3 b4
      have m2 : v3.cell? ⟨w.heap.size + 1, 2, none⟩ = some (.string m.ho) := HR.out.cmd.cell 2
      go_wp2_with (fail)
      refine (HNM.out _).mono ?_; rintro e w4 ⟨rfl, hb3⟩
      replace HR := Lib.hid (bx_stays HR.out hb3)
      replace HC := Lib.hid (HC.out.below hb3)
      replace HB := Lib.hid (HB.out.trans (hb3.mono HB.out.size))
      clear hb3 m2
      go_wp2_with (fail)
      refine (resv_any w4 _ p A5 c5 t m none 0 [] HC.out HM.out HS.out (fun v hv => HRT.out.below (HB.out.trans (hv.mono (by omega))))).mono ?_; rintro e v5 ⟨rfl, A6, c6, B6, e6, hC6, hb6⟩
      replace HR := Lib.hid (chg_stays HR.out hb6)
      replace HB := Lib.hid (HB.out.trans (hb6.mono (by omega)))
      replace HC := Lib.hid hC6
      clear hb6 hC6
      have c0 : v5.cell? ⟨p, 0, none⟩ = some (.slice A6 (resvT t m).rs.length c6) := HC.out.blk.cell 0
      have c1 : v5.cell? ⟨p, 1, none⟩ = some (.int .i64 (resvT t m).ty) := HC.out.blk.cell 1
      have c2 : v5.cell? ⟨p, 2, none⟩ = some (.string (resvT t m).ho) := HC.out.blk.cell 2
      have c3 : v5.cell? ⟨p, 3, none⟩ = some (.int .u32 (resvT t m).ge) := HC.out.blk.cell 3
      have c4 : v5.cell? ⟨p, 4, none⟩ = some (.bool (resvT t m).ap) := HC.out.blk.cell 4
      have r0 : v5.cell? ⟨w.heap.size + 1 + 1, 0, none⟩ = some (.slice none 0 0) := HR.out.res.cell 0
      have q0 : v5.frozen? ⟨w.heap.size + 1 + 1, 0, none⟩ = false := HR.out.res.free 0
      have r1 : v5.cell? ⟨w.heap.size + 1 + 1, 1, none⟩ = some (.int .i64 0) := HR.out.res.cell 1
      have q1 : v5.frozen? ⟨w.heap.size + 1 + 1, 1, none⟩ = false := HR.out.res.free 1
      have r2 : v5.cell? ⟨w.heap.size + 1 + 1, 2, none⟩ = some (.string ⟨#[]⟩) := HR.out.res.cell 2
      have q2 : v5.frozen? ⟨w.heap.size + 1 + 1, 2, none⟩ = false := HR.out.res.free 2
      have r3 : v5.cell? ⟨w.heap.size + 1 + 1, 3, none⟩ = some (.int .u32 0) := HR.out.res.cell 3
      have q3 : v5.frozen? ⟨w.heap.size + 1 + 1, 3, none⟩ = false := HR.out.res.free 3
      have r4 : v5.cell? ⟨w.heap.size + 1 + 1, 4, none⟩ = some (.bool false) := HR.out.res.cell 4
      have q4 : v5.frozen? ⟨w.heap.size + 1 + 1, 4, none⟩ = false := HR.out.res.free 4
      have c19 : v5.cell? ⟨p, 19, none⟩ = some (.slice B6 [].length e6) := HC.out.blk.cell 19
      have HE := Lib.hid (fun (V : World) (A : Option Addr) (c : Nat) (B : Option Addr) (e : Nat) => DoOut.right HDT.out HDE.out HDC.out (w := w) (V := V) (A := A) (c := c) (B := B) (e := e))
      generalize resvT t m = tt at *
      
      generalize resvCode t m = cd at *
      go_upto_region 6 with (fail)
      go_region_law (fail)
      all_goals (
        go_wp2_with (fail)
        obtain ⟨hK, hO, hB⟩ := res_put w v5 p A6 c6 tt m B6 e6 [] HC.out HR.out.res HB.out _ rfl
        refine bodyPost_ret_by (res22 _ _ (w.heap.size + 1 + 1) (tlC A6 c6 tt) rfl hK rfl) rfl ?_
        exact HE.out _ _ _ _ _ (hO.1.below ((Below.refl _ _).drew)) (hO.2.below ((Below.refl _ _).drew)) hB.drew)
    go_region_law (first
      | (refine step_eff (by rfl) (by rfl) ?_))
    all_goals exact HREST2
  refine wp_region_any (by kernel_rfl) ?_
  change wpAny _ _ _ _ _ _ _ (World.drew w0)
  replace HD0 := Lib.hid (HD0.out.below (Below.refl w0.heap.size w0).drew); replace HB0 := Lib.hid (HB0.out.trans ((Below.refl w0.heap.size w0).drew.mono HB0.out.size)); replace HN0 := Lib.hid (show w.heap.size + 3 ≤ w0.drew.heap.size from HN0.out)
  generalize w0.drew = v0 at *
  refine wpAny_ready (rs := [0, 2, 4]) (by kernel_rfl) (by simp) ?_
  refine AllReady.cons rfl (fun KK hKK => ?_) ?_
  · skip
    refine step_loadR (by rfl) 27 (.tmp 2) (by rfl) w.heap.size (by rfl) 27 (tlC A c t) HD0.out.box _ Tryd.underlying27 rfl size27 ?_
    refine hKK _ _ ?_; clear hKK KK
    refine wpAny_ready (rs := [1, 2, 4]) (by kernel_rfl) (by simp) ?_
    refine AllReady.cons rfl (fun KK hKK => ?_) ?_
    · skip
      refine step_copy (by rfl) (.tmp 11) (by rfl) A c t (by rfl) HD0.out.rgs HM.out HX.out HH.out ?_
      intro A5 c5 v2 ho hb
      have HD2 := Lib.hid (HD0.out.below hb); have HB2 := Lib.hid (HB0.out.trans (hb.mono HB0.out.size)); have HN2 := Lib.hid (Nat.le_trans HN0.out hb.size); have HO2 := Lib.hid (Own.base ho HN0.out)
      clear hb ho; refine hKK _ _ ?_; clear hKK KK
      refine wpAny_ready (rs := [2, 4]) (by kernel_rfl) (by simp) ?_
      refine AllReady.cons rfl (fun KK hKK => ?_) ?_
      · skip
        refine step_loadR (by rfl) 37 (.tmp 3) (by rfl) (w.heap.size + 1) (by rfl) 37 (cmC m) HD2.out.cmd _ Tryd.underlying37 rfl size37 ?_
        refine hKK _ _ ?_; clear hKK KK
        refine wpAny_ready (rs := [3, 4]) (by kernel_rfl) (by simp) ?_
        refine AllReady.cons rfl (fun KK hKK => ?_) ?_
        · skip
          go_simp
          refine hKK _ _ ?_; clear hKK KK
          refine wpAny_ready (rs := [4]) (by kernel_rfl) (by simp) ?_
          refine AllReady.cons rfl (fun KK hKK => ?_) ?_
          · skip
            go_simp
            refine hKK _ _ ?_; clear hKK KK
            change wpAny _ _ _ _ _ _ _ (v2.alloc (.cells chZ 64))
            have hal := (Below.refl v2.heap.size v2).alloc (Nat.le_refl _) (.cells chZ 64)
            have HD5 := Lib.hid (HD2.out.below hal); have HB5 := Lib.hid (HB2.out.trans (hal.mono HB2.out.size)); have HN5 := Lib.hid (Nat.le_trans HN2.out hal.size)
            have HO5 := Lib.hid (HO2.out.below hal)
            have HP5 := Lib.hid (Blk.new v2 64 chZ)
            have HQ := HN2; clear hal
            generalize v2.alloc (.cells chZ 64) = v5 at *
            refine wpAny_ready (rs := [5]) (by kernel_rfl) (by simp) ?_
            refine AllReady.cons rfl (fun KK hKK => ?_) ?_
            · skip
              refine step_storeR (by rfl) 64 (.tmp 7) (.tmp 14) (by rfl) _ (chC A5 c5 t m none 0 []) (by rfl) (by rfl) 64 chZ HP5.out size64 rfl (chC_one ..) ?_
              intro v6 hbk hon
              have HD6 := Lib.hid (HD5.out.only hon HQ.out); have HB6 := Lib.hid (HB5.out.trans (hon.toBelow HB5.out.size (fun k hk => by have := HQ.out; omega))); have HC6 := Lib.hid (Chg.first HO5.out HP5.out hbk hon HQ.out HN5.out)
              clear hbk hon; refine hKK _ _ ?_; clear hKK KK
              refine wpAny_done (by kernel_rfl) ?_ _
              exact HREST _ _ _ _ HD6.out HB6.out HC6.out
            exact AllReady.nil
          exact AllReady.nil
        refine AllReady.cons rfl (fun KK hKK => ?_) ?_
        · skip
          go_simp
          refine hKK _ _ ?_; clear hKK KK
          change wpAny _ _ _ _ _ _ _ (v2.alloc (.cells chZ 64))
          have hal := (Below.refl v2.heap.size v2).alloc (Nat.le_refl _) (.cells chZ 64)
          have HD7 := Lib.hid (HD2.out.below hal); have HB7 := Lib.hid (HB2.out.trans (hal.mono HB2.out.size)); have HN7 := Lib.hid (Nat.le_trans HN2.out hal.size)
          have HO7 := Lib.hid (HO2.out.below hal)
          have HP7 := Lib.hid (Blk.new v2 64 chZ)
          have HQ := HN2; clear hal
          generalize v2.alloc (.cells chZ 64) = v7 at *
          refine wpAny_ready (rs := [3]) (by kernel_rfl) (by simp) ?_
          refine AllReady.cons rfl (fun KK hKK => ?_) ?_
          · skip
            go_simp
            refine hKK _ _ ?_; clear hKK KK
            refine wpAny_ready (rs := [5]) (by kernel_rfl) (by simp) ?_
            refine AllReady.cons rfl (fun KK hKK => ?_) ?_
            · skip
              refine step_storeR (by rfl) 64 (.tmp 7) (.tmp 14) (by rfl) _ (chC A5 c5 t m none 0 []) (by rfl) (by rfl) 64 chZ HP7.out size64 rfl (chC_one ..) ?_
              intro v9 hbk hon
              have HD9 := Lib.hid (HD7.out.only hon HQ.out); have HB9 := Lib.hid (HB7.out.trans (hon.toBelow HB7.out.size (fun k hk => by have := HQ.out; omega))); have HC9 := Lib.hid (Chg.first HO7.out HP7.out hbk hon HQ.out HN7.out)
              clear hbk hon; refine hKK _ _ ?_; clear hKK KK
              refine wpAny_done (by kernel_rfl) ?_ _
              exact HREST _ _ _ _ HD9.out HB9.out HC9.out
            exact AllReady.nil
          exact AllReady.nil
        exact AllReady.nil
      refine AllReady.cons rfl (fun KK hKK => ?_) ?_
      · skip
        go_simp
        refine hKK _ _ ?_; clear hKK KK
        change wpAny _ _ _ _ _ _ _ (v2.alloc (.cells chZ 64))
        have hal := (Below.refl v2.heap.size v2).alloc (Nat.le_refl _) (.cells chZ 64)
        have HD10 := Lib.hid (HD2.out.below hal); have HB10 := Lib.hid (HB2.out.trans (hal.mono HB2.out.size)); have HN10 := Lib.hid (Nat.le_trans HN2.out hal.size)
        have HO10 := Lib.hid (HO2.out.below hal)
        have HP10 := Lib.hid (Blk.new v2 64 chZ)
        have HQ := HN2; clear hal
        generalize v2.alloc (.cells chZ 64) = v10 at *
        refine wpAny_ready (rs := [2]) (by kernel_rfl) (by simp) ?_
        refine AllReady.cons rfl (fun KK hKK => ?_) ?_
        · skip
          refine step_loadR (by rfl) 37 (.tmp 3) (by rfl) (w.heap.size + 1) (by rfl) 37 (cmC m) HD10.out.cmd _ Tryd.underlying37 rfl size37 ?_
          refine hKK _ _ ?_; clear hKK KK
          refine wpAny_ready (rs := [3]) (by kernel_rfl) (by simp) ?_
          refine AllReady.cons rfl (fun KK hKK => ?_) ?_
          · skip
            go_simp
            refine hKK _ _ ?_; clear hKK KK
            refine wpAny_ready (rs := [5]) (by kernel_rfl) (by simp) ?_
            refine AllReady.cons rfl (fun KK hKK => ?_) ?_
            · skip
              refine step_storeR (by rfl) 64 (.tmp 7) (.tmp 14) (by rfl) _ (chC A5 c5 t m none 0 []) (by rfl) (by rfl) 64 chZ HP10.out size64 rfl (chC_one ..) ?_
              intro v13 hbk hon
              have HD13 := Lib.hid (HD10.out.only hon HQ.out); have HB13 := Lib.hid (HB10.out.trans (hon.toBelow HB10.out.size (fun k hk => by have := HQ.out; omega))); have HC13 := Lib.hid (Chg.first HO10.out HP10.out hbk hon HQ.out HN10.out)
              clear hbk hon; refine hKK _ _ ?_; clear hKK KK
              refine wpAny_done (by kernel_rfl) ?_ _
              exact HREST _ _ _ _ HD13.out HB13.out HC13.out
            exact AllReady.nil
          exact AllReady.nil
        exact AllReady.nil
      exact AllReady.nil
    refine AllReady.cons rfl (fun KK hKK => ?_) ?_
    · skip
      refine step_loadR (by rfl) 37 (.tmp 3) (by rfl) (w.heap.size + 1) (by rfl) 37 (cmC m) HD0.out.cmd _ Tryd.underlying37 rfl size37 ?_
      refine hKK _ _ ?_; clear hKK KK
      refine wpAny_ready (rs := [1, 4]) (by kernel_rfl) (by simp) ?_
      refine AllReady.cons rfl (fun KK hKK => ?_) ?_
      · skip
        refine step_copy (by rfl) (.tmp 11) (by rfl) A c t (by rfl) HD0.out.rgs HM.out HX.out HH.out ?_
        intro A5 c5 v15 ho hb
        have HD15 := Lib.hid (HD0.out.below hb); have HB15 := Lib.hid (HB0.out.trans (hb.mono HB0.out.size)); have HN15 := Lib.hid (Nat.le_trans HN0.out hb.size); have HO15 := Lib.hid (Own.base ho HN0.out)
        clear hb ho; refine hKK _ _ ?_; clear hKK KK
        refine wpAny_ready (rs := [3, 4]) (by kernel_rfl) (by simp) ?_
        refine AllReady.cons rfl (fun KK hKK => ?_) ?_
        · skip
          go_simp
          refine hKK _ _ ?_; clear hKK KK
          refine wpAny_ready (rs := [4]) (by kernel_rfl) (by simp) ?_
          refine AllReady.cons rfl (fun KK hKK => ?_) ?_
          · skip
            go_simp
            refine hKK _ _ ?_; clear hKK KK
            change wpAny _ _ _ _ _ _ _ (v15.alloc (.cells chZ 64))
            have hal := (Below.refl v15.heap.size v15).alloc (Nat.le_refl _) (.cells chZ 64)
            have HD17 := Lib.hid (HD15.out.below hal); have HB17 := Lib.hid (HB15.out.trans (hal.mono HB15.out.size)); have HN17 := Lib.hid (Nat.le_trans HN15.out hal.size)
            have HO17 := Lib.hid (HO15.out.below hal)
            have HP17 := Lib.hid (Blk.new v15 64 chZ)
            have HQ := HN15; clear hal
            generalize v15.alloc (.cells chZ 64) = v17 at *
            refine wpAny_ready (rs := [5]) (by kernel_rfl) (by simp) ?_
            refine AllReady.cons rfl (fun KK hKK => ?_) ?_
            · skip
              refine step_storeR (by rfl) 64 (.tmp 7) (.tmp 14) (by rfl) _ (chC A5 c5 t m none 0 []) (by rfl) (by rfl) 64 chZ HP17.out size64 rfl (chC_one ..) ?_
              intro v18 hbk hon
              have HD18 := Lib.hid (HD17.out.only hon HQ.out); have HB18 := Lib.hid (HB17.out.trans (hon.toBelow HB17.out.size (fun k hk => by have := HQ.out; omega))); have HC18 := Lib.hid (Chg.first HO17.out HP17.out hbk hon HQ.out HN17.out)
              clear hbk hon; refine hKK _ _ ?_; clear hKK KK
              refine wpAny_done (by kernel_rfl) ?_ _
              exact HREST _ _ _ _ HD18.out HB18.out HC18.out
            exact AllReady.nil
          exact AllReady.nil
        refine AllReady.cons rfl (fun KK hKK => ?_) ?_
        · skip
          go_simp
          refine hKK _ _ ?_; clear hKK KK
          change wpAny _ _ _ _ _ _ _ (v15.alloc (.cells chZ 64))
          have hal := (Below.refl v15.heap.size v15).alloc (Nat.le_refl _) (.cells chZ 64)
          have HD19 := Lib.hid (HD15.out.below hal); have HB19 := Lib.hid (HB15.out.trans (hal.mono HB15.out.size)); have HN19 := Lib.hid (Nat.le_trans HN15.out hal.size)
          have HO19 := Lib.hid (HO15.out.below hal)
          have HP19 := Lib.hid (Blk.new v15 64 chZ)
          have HQ := HN15; clear hal
          generalize v15.alloc (.cells chZ 64) = v19 at *
          refine wpAny_ready (rs := [3]) (by kernel_rfl) (by simp) ?_
          refine AllReady.cons rfl (fun KK hKK => ?_) ?_
          · skip
            go_simp
            refine hKK _ _ ?_; clear hKK KK
            refine wpAny_ready (rs := [5]) (by kernel_rfl) (by simp) ?_
            refine AllReady.cons rfl (fun KK hKK => ?_) ?_
            · skip
              refine step_storeR (by rfl) 64 (.tmp 7) (.tmp 14) (by rfl) _ (chC A5 c5 t m none 0 []) (by rfl) (by rfl) 64 chZ HP19.out size64 rfl (chC_one ..) ?_
              intro v21 hbk hon
              have HD21 := Lib.hid (HD19.out.only hon HQ.out); have HB21 := Lib.hid (HB19.out.trans (hon.toBelow HB19.out.size (fun k hk => by have := HQ.out; omega))); have HC21 := Lib.hid (Chg.first HO19.out HP19.out hbk hon HQ.out HN19.out)
              clear hbk hon; refine hKK _ _ ?_; clear hKK KK
              refine wpAny_done (by kernel_rfl) ?_ _
              exact HREST _ _ _ _ HD21.out HB21.out HC21.out
            exact AllReady.nil
          exact AllReady.nil
        exact AllReady.nil
      refine AllReady.cons rfl (fun KK hKK => ?_) ?_
      · skip
        go_simp
        refine hKK _ _ ?_; clear hKK KK
        change wpAny _ _ _ _ _ _ _ (v0.alloc (.cells chZ 64))
        have hal := (Below.refl v0.heap.size v0).alloc (Nat.le_refl _) (.cells chZ 64)
        have HD22 := Lib.hid (HD0.out.below hal); have HB22 := Lib.hid (HB0.out.trans (hal.mono HB0.out.size)); have HN22 := Lib.hid (Nat.le_trans HN0.out hal.size)
        have HP22 := Lib.hid (Blk.new v0 64 chZ)
        have HQ := HN0; clear hal
        generalize v0.alloc (.cells chZ 64) = v22 at *
        refine wpAny_ready (rs := [1]) (by kernel_rfl) (by simp) ?_
        refine AllReady.cons rfl (fun KK hKK => ?_) ?_
        · skip
          refine step_copy (by rfl) (.tmp 11) (by rfl) A c t (by rfl) HD22.out.rgs HM.out HX.out HH.out ?_
          intro A5 c5 v23 ho hb
          have HD23 := Lib.hid (HD22.out.below hb); have HB23 := Lib.hid (HB22.out.trans (hb.mono HB22.out.size)); have HN23 := Lib.hid (Nat.le_trans HN22.out hb.size); have HO23 := Lib.hid (Own.base ho HN22.out)
          have HP23 := Lib.hid (HP22.out.below hb HP22.out.lt)
          clear hb ho; refine hKK _ _ ?_; clear hKK KK
          refine wpAny_ready (rs := [3]) (by kernel_rfl) (by simp) ?_
          refine AllReady.cons rfl (fun KK hKK => ?_) ?_
          · skip
            go_simp
            refine hKK _ _ ?_; clear hKK KK
            refine wpAny_ready (rs := [5]) (by kernel_rfl) (by simp) ?_
            refine AllReady.cons rfl (fun KK hKK => ?_) ?_
            · skip
              refine step_storeR (by rfl) 64 (.tmp 7) (.tmp 14) (by rfl) _ (chC A5 c5 t m none 0 []) (by rfl) (by rfl) 64 chZ HP23.out size64 rfl (chC_one ..) ?_
              intro v25 hbk hon
              have HD25 := Lib.hid (HD23.out.only hon HQ.out); have HB25 := Lib.hid (HB23.out.trans (hon.toBelow HB23.out.size (fun k hk => by have := HQ.out; omega))); have HC25 := Lib.hid (Chg.first HO23.out HP23.out hbk hon HQ.out HN23.out)
              clear hbk hon; refine hKK _ _ ?_; clear hKK KK
              refine wpAny_done (by kernel_rfl) ?_ _
              exact HREST _ _ _ _ HD25.out HB25.out HC25.out
            exact AllReady.nil
          exact AllReady.nil
        exact AllReady.nil
      exact AllReady.nil
    refine AllReady.cons rfl (fun KK hKK => ?_) ?_
    · skip
      go_simp
      refine hKK _ _ ?_; clear hKK KK
      change wpAny _ _ _ _ _ _ _ (v0.alloc (.cells chZ 64))
      have hal := (Below.refl v0.heap.size v0).alloc (Nat.le_refl _) (.cells chZ 64)
      have HD26 := Lib.hid (HD0.out.below hal); have HB26 := Lib.hid (HB0.out.trans (hal.mono HB0.out.size)); have HN26 := Lib.hid (Nat.le_trans HN0.out hal.size)
      have HP26 := Lib.hid (Blk.new v0 64 chZ)
      have HQ := HN0; clear hal
      generalize v0.alloc (.cells chZ 64) = v26 at *
      refine wpAny_ready (rs := [1, 2]) (by kernel_rfl) (by simp) ?_
      refine AllReady.cons rfl (fun KK hKK => ?_) ?_
      · skip
        refine step_copy (by rfl) (.tmp 11) (by rfl) A c t (by rfl) HD26.out.rgs HM.out HX.out HH.out ?_
        intro A5 c5 v27 ho hb
        have HD27 := Lib.hid (HD26.out.below hb); have HB27 := Lib.hid (HB26.out.trans (hb.mono HB26.out.size)); have HN27 := Lib.hid (Nat.le_trans HN26.out hb.size); have HO27 := Lib.hid (Own.base ho HN26.out)
        have HP27 := Lib.hid (HP26.out.below hb HP26.out.lt)
        clear hb ho; refine hKK _ _ ?_; clear hKK KK
        refine wpAny_ready (rs := [2]) (by kernel_rfl) (by simp) ?_
        refine AllReady.cons rfl (fun KK hKK => ?_) ?_
        · skip
          refine step_loadR (by rfl) 37 (.tmp 3) (by rfl) (w.heap.size + 1) (by rfl) 37 (cmC m) HD27.out.cmd _ Tryd.underlying37 rfl size37 ?_
          refine hKK _ _ ?_; clear hKK KK
          refine wpAny_ready (rs := [3]) (by kernel_rfl) (by simp) ?_
          refine AllReady.cons rfl (fun KK hKK => ?_) ?_
          · skip
            go_simp
            refine hKK _ _ ?_; clear hKK KK
            refine wpAny_ready (rs := [5]) (by kernel_rfl) (by simp) ?_
            refine AllReady.cons rfl (fun KK hKK => ?_) ?_
            · skip
              refine step_storeR (by rfl) 64 (.tmp 7) (.tmp 14) (by rfl) _ (chC A5 c5 t m none 0 []) (by rfl) (by rfl) 64 chZ HP27.out size64 rfl (chC_one ..) ?_
              intro v30 hbk hon
              have HD30 := Lib.hid (HD27.out.only hon HQ.out); have HB30 := Lib.hid (HB27.out.trans (hon.toBelow HB27.out.size (fun k hk => by have := HQ.out; omega))); have HC30 := Lib.hid (Chg.first HO27.out HP27.out hbk hon HQ.out HN27.out)
              clear hbk hon; refine hKK _ _ ?_; clear hKK KK
              refine wpAny_done (by kernel_rfl) ?_ _
              exact HREST _ _ _ _ HD30.out HB30.out HC30.out
            exact AllReady.nil
          exact AllReady.nil
        exact AllReady.nil
      refine AllReady.cons rfl (fun KK hKK => ?_) ?_
      · skip
        refine step_loadR (by rfl) 37 (.tmp 3) (by rfl) (w.heap.size + 1) (by rfl) 37 (cmC m) HD26.out.cmd _ Tryd.underlying37 rfl size37 ?_
        refine hKK _ _ ?_; clear hKK KK
        refine wpAny_ready (rs := [1]) (by kernel_rfl) (by simp) ?_
        refine AllReady.cons rfl (fun KK hKK => ?_) ?_
        · skip
          refine step_copy (by rfl) (.tmp 11) (by rfl) A c t (by rfl) HD26.out.rgs HM.out HX.out HH.out ?_
          intro A5 c5 v32 ho hb
          have HD32 := Lib.hid (HD26.out.below hb); have HB32 := Lib.hid (HB26.out.trans (hb.mono HB26.out.size)); have HN32 := Lib.hid (Nat.le_trans HN26.out hb.size); have HO32 := Lib.hid (Own.base ho HN26.out)
          have HP32 := Lib.hid (HP26.out.below hb HP26.out.lt)
          clear hb ho; refine hKK _ _ ?_; clear hKK KK
          refine wpAny_ready (rs := [3]) (by kernel_rfl) (by simp) ?_
          refine AllReady.cons rfl (fun KK hKK => ?_) ?_
          · skip
            go_simp
            refine hKK _ _ ?_; clear hKK KK
            refine wpAny_ready (rs := [5]) (by kernel_rfl) (by simp) ?_
            refine AllReady.cons rfl (fun KK hKK => ?_) ?_
            · skip
              refine step_storeR (by rfl) 64 (.tmp 7) (.tmp 14) (by rfl) _ (chC A5 c5 t m none 0 []) (by rfl) (by rfl) 64 chZ HP32.out size64 rfl (chC_one ..) ?_
              intro v34 hbk hon
              have HD34 := Lib.hid (HD32.out.only hon HQ.out); have HB34 := Lib.hid (HB32.out.trans (hon.toBelow HB32.out.size (fun k hk => by have := HQ.out; omega))); have HC34 := Lib.hid (Chg.first HO32.out HP32.out hbk hon HQ.out HN32.out)
              clear hbk hon; refine hKK _ _ ?_; clear hKK KK
              refine wpAny_done (by kernel_rfl) ?_ _
              exact HREST _ _ _ _ HD34.out HB34.out HC34.out
            exact AllReady.nil
          exact AllReady.nil
        exact AllReady.nil
      exact AllReady.nil
    exact AllReady.nil
  refine AllReady.cons rfl (fun KK hKK => ?_) ?_
  · skip
    refine step_loadR (by rfl) 37 (.tmp 3) (by rfl) (w.heap.size + 1) (by rfl) 37 (cmC m) HD0.out.cmd _ Tryd.underlying37 rfl size37 ?_
    refine hKK _ _ ?_; clear hKK KK
    refine wpAny_ready (rs := [0, 4]) (by kernel_rfl) (by simp) ?_
    refine AllReady.cons rfl (fun KK hKK => ?_) ?_
    · skip
      refine step_loadR (by rfl) 27 (.tmp 2) (by rfl) w.heap.size (by rfl) 27 (tlC A c t) HD0.out.box _ Tryd.underlying27 rfl size27 ?_
      refine hKK _ _ ?_; clear hKK KK
      refine wpAny_ready (rs := [1, 4]) (by kernel_rfl) (by simp) ?_
      refine AllReady.cons rfl (fun KK hKK => ?_) ?_
      · skip
        refine step_copy (by rfl) (.tmp 11) (by rfl) A c t (by rfl) HD0.out.rgs HM.out HX.out HH.out ?_
        intro A5 c5 v37 ho hb
        have HD37 := Lib.hid (HD0.out.below hb); have HB37 := Lib.hid (HB0.out.trans (hb.mono HB0.out.size)); have HN37 := Lib.hid (Nat.le_trans HN0.out hb.size); have HO37 := Lib.hid (Own.base ho HN0.out)
        clear hb ho; refine hKK _ _ ?_; clear hKK KK
        refine wpAny_ready (rs := [3, 4]) (by kernel_rfl) (by simp) ?_
        refine AllReady.cons rfl (fun KK hKK => ?_) ?_
        · skip
          go_simp
          refine hKK _ _ ?_; clear hKK KK
          refine wpAny_ready (rs := [4]) (by kernel_rfl) (by simp) ?_
          refine AllReady.cons rfl (fun KK hKK => ?_) ?_
          · skip
            go_simp
            refine hKK _ _ ?_; clear hKK KK
            change wpAny _ _ _ _ _ _ _ (v37.alloc (.cells chZ 64))
            have hal := (Below.refl v37.heap.size v37).alloc (Nat.le_refl _) (.cells chZ 64)
            have HD39 := Lib.hid (HD37.out.below hal); have HB39 := Lib.hid (HB37.out.trans (hal.mono HB37.out.size)); have HN39 := Lib.hid (Nat.le_trans HN37.out hal.size)
            have HO39 := Lib.hid (HO37.out.below hal)
            have HP39 := Lib.hid (Blk.new v37 64 chZ)
            have HQ := HN37; clear hal
            generalize v37.alloc (.cells chZ 64) = v39 at *
            refine wpAny_ready (rs := [5]) (by kernel_rfl) (by simp) ?_
            refine AllReady.cons rfl (fun KK hKK => ?_) ?_
            · skip
              refine step_storeR (by rfl) 64 (.tmp 7) (.tmp 14) (by rfl) _ (chC A5 c5 t m none 0 []) (by rfl) (by rfl) 64 chZ HP39.out size64 rfl (chC_one ..) ?_
              intro v40 hbk hon
              have HD40 := Lib.hid (HD39.out.only hon HQ.out); have HB40 := Lib.hid (HB39.out.trans (hon.toBelow HB39.out.size (fun k hk => by have := HQ.out; omega))); have HC40 := Lib.hid (Chg.first HO39.out HP39.out hbk hon HQ.out HN39.out)
              clear hbk hon; refine hKK _ _ ?_; clear hKK KK
              refine wpAny_done (by kernel_rfl) ?_ _
              exact HREST _ _ _ _ HD40.out HB40.out HC40.out
            exact AllReady.nil
          exact AllReady.nil
        refine AllReady.cons rfl (fun KK hKK => ?_) ?_
        · skip
          go_simp
          refine hKK _ _ ?_; clear hKK KK
          change wpAny _ _ _ _ _ _ _ (v37.alloc (.cells chZ 64))
          have hal := (Below.refl v37.heap.size v37).alloc (Nat.le_refl _) (.cells chZ 64)
          have HD41 := Lib.hid (HD37.out.below hal); have HB41 := Lib.hid (HB37.out.trans (hal.mono HB37.out.size)); have HN41 := Lib.hid (Nat.le_trans HN37.out hal.size)
          have HO41 := Lib.hid (HO37.out.below hal)
          have HP41 := Lib.hid (Blk.new v37 64 chZ)
          have HQ := HN37; clear hal
          generalize v37.alloc (.cells chZ 64) = v41 at *
          refine wpAny_ready (rs := [3]) (by kernel_rfl) (by simp) ?_
          refine AllReady.cons rfl (fun KK hKK => ?_) ?_
          · skip
            go_simp
            refine hKK _ _ ?_; clear hKK KK
            refine wpAny_ready (rs := [5]) (by kernel_rfl) (by simp) ?_
            refine AllReady.cons rfl (fun KK hKK => ?_) ?_
            · skip
              refine step_storeR (by rfl) 64 (.tmp 7) (.tmp 14) (by rfl) _ (chC A5 c5 t m none 0 []) (by rfl) (by rfl) 64 chZ HP41.out size64 rfl (chC_one ..) ?_
              intro v43 hbk hon
              have HD43 := Lib.hid (HD41.out.only hon HQ.out); have HB43 := Lib.hid (HB41.out.trans (hon.toBelow HB41.out.size (fun k hk => by have := HQ.out; omega))); have HC43 := Lib.hid (Chg.first HO41.out HP41.out hbk hon HQ.out HN41.out)
              clear hbk hon; refine hKK _ _ ?_; clear hKK KK
              refine wpAny_done (by kernel_rfl) ?_ _
              exact HREST _ _ _ _ HD43.out HB43.out HC43.out
            exact AllReady.nil
          exact AllReady.nil
        exact AllReady.nil
      refine AllReady.cons rfl (fun KK hKK => ?_) ?_
      · skip
        go_simp
        refine hKK _ _ ?_; clear hKK KK
        change wpAny _ _ _ _ _ _ _ (v0.alloc (.cells chZ 64))
        have hal := (Below.refl v0.heap.size v0).alloc (Nat.le_refl _) (.cells chZ 64)
        have HD44 := Lib.hid (HD0.out.below hal); have HB44 := Lib.hid (HB0.out.trans (hal.mono HB0.out.size)); have HN44 := Lib.hid (Nat.le_trans HN0.out hal.size)
        have HP44 := Lib.hid (Blk.new v0 64 chZ)
        have HQ := HN0; clear hal
        generalize v0.alloc (.cells chZ 64) = v44 at *
        refine wpAny_ready (rs := [1]) (by kernel_rfl) (by simp) ?_
        refine AllReady.cons rfl (fun KK hKK => ?_) ?_
        · skip
          refine step_copy (by rfl) (.tmp 11) (by rfl) A c t (by rfl) HD44.out.rgs HM.out HX.out HH.out ?_
          intro A5 c5 v45 ho hb
          have HD45 := Lib.hid (HD44.out.below hb); have HB45 := Lib.hid (HB44.out.trans (hb.mono HB44.out.size)); have HN45 := Lib.hid (Nat.le_trans HN44.out hb.size); have HO45 := Lib.hid (Own.base ho HN44.out)
          have HP45 := Lib.hid (HP44.out.below hb HP44.out.lt)
          clear hb ho; refine hKK _ _ ?_; clear hKK KK
          refine wpAny_ready (rs := [3]) (by kernel_rfl) (by simp) ?_
          refine AllReady.cons rfl (fun KK hKK => ?_) ?_
          · skip
            go_simp
            refine hKK _ _ ?_; clear hKK KK
            refine wpAny_ready (rs := [5]) (by kernel_rfl) (by simp) ?_
            refine AllReady.cons rfl (fun KK hKK => ?_) ?_
            · skip
              refine step_storeR (by rfl) 64 (.tmp 7) (.tmp 14) (by rfl) _ (chC A5 c5 t m none 0 []) (by rfl) (by rfl) 64 chZ HP45.out size64 rfl (chC_one ..) ?_
              intro v47 hbk hon
              have HD47 := Lib.hid (HD45.out.only hon HQ.out); have HB47 := Lib.hid (HB45.out.trans (hon.toBelow HB45.out.size (fun k hk => by have := HQ.out; omega))); have HC47 := Lib.hid (Chg.first HO45.out HP45.out hbk hon HQ.out HN45.out)
              clear hbk hon; refine hKK _ _ ?_; clear hKK KK
              refine wpAny_done (by kernel_rfl) ?_ _
              exact HREST _ _ _ _ HD47.out HB47.out HC47.out
            exact AllReady.nil
          exact AllReady.nil
        exact AllReady.nil
      exact AllReady.nil
    refine AllReady.cons rfl (fun KK hKK => ?_) ?_
    · skip
      go_simp
      refine hKK _ _ ?_; clear hKK KK
      change wpAny _ _ _ _ _ _ _ (v0.alloc (.cells chZ 64))
      have hal := (Below.refl v0.heap.size v0).alloc (Nat.le_refl _) (.cells chZ 64)
      have HD48 := Lib.hid (HD0.out.below hal); have HB48 := Lib.hid (HB0.out.trans (hal.mono HB0.out.size)); have HN48 := Lib.hid (Nat.le_trans HN0.out hal.size)
      have HP48 := Lib.hid (Blk.new v0 64 chZ)
      have HQ := HN0; clear hal
      generalize v0.alloc (.cells chZ 64) = v48 at *
      refine wpAny_ready (rs := [0]) (by kernel_rfl) (by simp) ?_
      refine AllReady.cons rfl (fun KK hKK => ?_) ?_
      · skip
        refine step_loadR (by rfl) 27 (.tmp 2) (by rfl) w.heap.size (by rfl) 27 (tlC A c t) HD48.out.box _ Tryd.underlying27 rfl size27 ?_
        refine hKK _ _ ?_; clear hKK KK
        refine wpAny_ready (rs := [1]) (by kernel_rfl) (by simp) ?_
        refine AllReady.cons rfl (fun KK hKK => ?_) ?_
        · skip
          refine step_copy (by rfl) (.tmp 11) (by rfl) A c t (by rfl) HD48.out.rgs HM.out HX.out HH.out ?_
          intro A5 c5 v50 ho hb
          have HD50 := Lib.hid (HD48.out.below hb); have HB50 := Lib.hid (HB48.out.trans (hb.mono HB48.out.size)); have HN50 := Lib.hid (Nat.le_trans HN48.out hb.size); have HO50 := Lib.hid (Own.base ho HN48.out)
          have HP50 := Lib.hid (HP48.out.below hb HP48.out.lt)
          clear hb ho; refine hKK _ _ ?_; clear hKK KK
          refine wpAny_ready (rs := [3]) (by kernel_rfl) (by simp) ?_
          refine AllReady.cons rfl (fun KK hKK => ?_) ?_
          · skip
            go_simp
            refine hKK _ _ ?_; clear hKK KK
            refine wpAny_ready (rs := [5]) (by kernel_rfl) (by simp) ?_
            refine AllReady.cons rfl (fun KK hKK => ?_) ?_
            · skip
              refine step_storeR (by rfl) 64 (.tmp 7) (.tmp 14) (by rfl) _ (chC A5 c5 t m none 0 []) (by rfl) (by rfl) 64 chZ HP50.out size64 rfl (chC_one ..) ?_
              intro v52 hbk hon
              have HD52 := Lib.hid (HD50.out.only hon HQ.out); have HB52 := Lib.hid (HB50.out.trans (hon.toBelow HB50.out.size (fun k hk => by have := HQ.out; omega))); have HC52 := Lib.hid (Chg.first HO50.out HP50.out hbk hon HQ.out HN50.out)
              clear hbk hon; refine hKK _ _ ?_; clear hKK KK
              refine wpAny_done (by kernel_rfl) ?_ _
              exact HREST _ _ _ _ HD52.out HB52.out HC52.out
            exact AllReady.nil
          exact AllReady.nil
        exact AllReady.nil
      exact AllReady.nil
    exact AllReady.nil
  refine AllReady.cons rfl (fun KK hKK => ?_) ?_
  · skip
    go_simp
    refine hKK _ _ ?_; clear hKK KK
    change wpAny _ _ _ _ _ _ _ (v0.alloc (.cells chZ 64))
    have hal := (Below.refl v0.heap.size v0).alloc (Nat.le_refl _) (.cells chZ 64)
    have HD53 := Lib.hid (HD0.out.below hal); have HB53 := Lib.hid (HB0.out.trans (hal.mono HB0.out.size)); have HN53 := Lib.hid (Nat.le_trans HN0.out hal.size)
    have HP53 := Lib.hid (Blk.new v0 64 chZ)
    have HQ := HN0; clear hal
    generalize v0.alloc (.cells chZ 64) = v53 at *
    refine wpAny_ready (rs := [0, 2]) (by kernel_rfl) (by simp) ?_
    refine AllReady.cons rfl (fun KK hKK => ?_) ?_
    · skip
      refine step_loadR (by rfl) 27 (.tmp 2) (by rfl) w.heap.size (by rfl) 27 (tlC A c t) HD53.out.box _ Tryd.underlying27 rfl size27 ?_
      refine hKK _ _ ?_; clear hKK KK
      refine wpAny_ready (rs := [1, 2]) (by kernel_rfl) (by simp) ?_
      refine AllReady.cons rfl (fun KK hKK => ?_) ?_
      · skip
        refine step_copy (by rfl) (.tmp 11) (by rfl) A c t (by rfl) HD53.out.rgs HM.out HX.out HH.out ?_
        intro A5 c5 v55 ho hb
        have HD55 := Lib.hid (HD53.out.below hb); have HB55 := Lib.hid (HB53.out.trans (hb.mono HB53.out.size)); have HN55 := Lib.hid (Nat.le_trans HN53.out hb.size); have HO55 := Lib.hid (Own.base ho HN53.out)
        have HP55 := Lib.hid (HP53.out.below hb HP53.out.lt)
        clear hb ho; refine hKK _ _ ?_; clear hKK KK
        refine wpAny_ready (rs := [2]) (by kernel_rfl) (by simp) ?_
        refine AllReady.cons rfl (fun KK hKK => ?_) ?_
        · skip
          refine step_loadR (by rfl) 37 (.tmp 3) (by rfl) (w.heap.size + 1) (by rfl) 37 (cmC m) HD55.out.cmd _ Tryd.underlying37 rfl size37 ?_
          refine hKK _ _ ?_; clear hKK KK
          refine wpAny_ready (rs := [3]) (by kernel_rfl) (by simp) ?_
          refine AllReady.cons rfl (fun KK hKK => ?_) ?_
          · skip
            go_simp
            refine hKK _ _ ?_; clear hKK KK
            refine wpAny_ready (rs := [5]) (by kernel_rfl) (by simp) ?_
            refine AllReady.cons rfl (fun KK hKK => ?_) ?_
            · skip
              refine step_storeR (by rfl) 64 (.tmp 7) (.tmp 14) (by rfl) _ (chC A5 c5 t m none 0 []) (by rfl) (by rfl) 64 chZ HP55.out size64 rfl (chC_one ..) ?_
              intro v58 hbk hon
              have HD58 := Lib.hid (HD55.out.only hon HQ.out); have HB58 := Lib.hid (HB55.out.trans (hon.toBelow HB55.out.size (fun k hk => by have := HQ.out; omega))); have HC58 := Lib.hid (Chg.first HO55.out HP55.out hbk hon HQ.out HN55.out)
              clear hbk hon; refine hKK _ _ ?_; clear hKK KK
              refine wpAny_done (by kernel_rfl) ?_ _
              exact HREST _ _ _ _ HD58.out HB58.out HC58.out
            exact AllReady.nil
          exact AllReady.nil
        exact AllReady.nil
      refine AllReady.cons rfl (fun KK hKK => ?_) ?_
      · skip
        refine step_loadR (by rfl) 37 (.tmp 3) (by rfl) (w.heap.size + 1) (by rfl) 37 (cmC m) HD53.out.cmd _ Tryd.underlying37 rfl size37 ?_
        refine hKK _ _ ?_; clear hKK KK
        refine wpAny_ready (rs := [1]) (by kernel_rfl) (by simp) ?_
        refine AllReady.cons rfl (fun KK hKK => ?_) ?_
        · skip
          refine step_copy (by rfl) (.tmp 11) (by rfl) A c t (by rfl) HD53.out.rgs HM.out HX.out HH.out ?_
          intro A5 c5 v60 ho hb
          have HD60 := Lib.hid (HD53.out.below hb); have HB60 := Lib.hid (HB53.out.trans (hb.mono HB53.out.size)); have HN60 := Lib.hid (Nat.le_trans HN53.out hb.size); have HO60 := Lib.hid (Own.base ho HN53.out)
          have HP60 := Lib.hid (HP53.out.below hb HP53.out.lt)
          clear hb ho; refine hKK _ _ ?_; clear hKK KK
          refine wpAny_ready (rs := [3]) (by kernel_rfl) (by simp) ?_
          refine AllReady.cons rfl (fun KK hKK => ?_) ?_
          · skip
            go_simp
            refine hKK _ _ ?_; clear hKK KK
            refine wpAny_ready (rs := [5]) (by kernel_rfl) (by simp) ?_
            refine AllReady.cons rfl (fun KK hKK => ?_) ?_
            · skip
              refine step_storeR (by rfl) 64 (.tmp 7) (.tmp 14) (by rfl) _ (chC A5 c5 t m none 0 []) (by rfl) (by rfl) 64 chZ HP60.out size64 rfl (chC_one ..) ?_
              intro v62 hbk hon
              have HD62 := Lib.hid (HD60.out.only hon HQ.out); have HB62 := Lib.hid (HB60.out.trans (hon.toBelow HB60.out.size (fun k hk => by have := HQ.out; omega))); have HC62 := Lib.hid (Chg.first HO60.out HP60.out hbk hon HQ.out HN60.out)
              clear hbk hon; refine hKK _ _ ?_; clear hKK KK
              refine wpAny_done (by kernel_rfl) ?_ _
              exact HREST _ _ _ _ HD62.out HB62.out HC62.out
            exact AllReady.nil
          exact AllReady.nil
        exact AllReady.nil
      exact AllReady.nil
    refine AllReady.cons rfl (fun KK hKK => ?_) ?_
    · skip
      refine step_loadR (by rfl) 37 (.tmp 3) (by rfl) (w.heap.size + 1) (by rfl) 37 (cmC m) HD53.out.cmd _ Tryd.underlying37 rfl size37 ?_
      refine hKK _ _ ?_; clear hKK KK
      refine wpAny_ready (rs := [0]) (by kernel_rfl) (by simp) ?_
      refine AllReady.cons rfl (fun KK hKK => ?_) ?_
      · skip
        refine step_loadR (by rfl) 27 (.tmp 2) (by rfl) w.heap.size (by rfl) 27 (tlC A c t) HD53.out.box _ Tryd.underlying27 rfl size27 ?_
        refine hKK _ _ ?_; clear hKK KK
        refine wpAny_ready (rs := [1]) (by kernel_rfl) (by simp) ?_
        refine AllReady.cons rfl (fun KK hKK => ?_) ?_
        · skip
          refine step_copy (by rfl) (.tmp 11) (by rfl) A c t (by rfl) HD53.out.rgs HM.out HX.out HH.out ?_
          intro A5 c5 v65 ho hb
          have HD65 := Lib.hid (HD53.out.below hb); have HB65 := Lib.hid (HB53.out.trans (hb.mono HB53.out.size)); have HN65 := Lib.hid (Nat.le_trans HN53.out hb.size); have HO65 := Lib.hid (Own.base ho HN53.out)
          have HP65 := Lib.hid (HP53.out.below hb HP53.out.lt)
          clear hb ho; refine hKK _ _ ?_; clear hKK KK
          refine wpAny_ready (rs := [3]) (by kernel_rfl) (by simp) ?_
          refine AllReady.cons rfl (fun KK hKK => ?_) ?_
          · skip
            go_simp
            refine hKK _ _ ?_; clear hKK KK
            refine wpAny_ready (rs := [5]) (by kernel_rfl) (by simp) ?_
            refine AllReady.cons rfl (fun KK hKK => ?_) ?_
            · skip
              refine step_storeR (by rfl) 64 (.tmp 7) (.tmp 14) (by rfl) _ (chC A5 c5 t m none 0 []) (by rfl) (by rfl) 64 chZ HP65.out size64 rfl (chC_one ..) ?_
              intro v67 hbk hon
              have HD67 := Lib.hid (HD65.out.only hon HQ.out); have HB67 := Lib.hid (HB65.out.trans (hon.toBelow HB65.out.size (fun k hk => by have := HQ.out; omega))); have HC67 := Lib.hid (Chg.first HO65.out HP65.out hbk hon HQ.out HN65.out)
              clear hbk hon; refine hKK _ _ ?_; clear hKK KK
              refine wpAny_done (by kernel_rfl) ?_ _
              exact HREST _ _ _ _ HD67.out HB67.out HC67.out
            exact AllReady.nil
          exact AllReady.nil
        exact AllReady.nil
      exact AllReady.nil
    exact AllReady.nil
  exact AllReady.nil
end Go.Proofs.YtgekadfkokkapaaDoor
