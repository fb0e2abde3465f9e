/- The document's changes: who asks is registered no more. -/
import Derived.Test.YtgekadfkokkapaaDoorPk25
namespace Go.Proofs.YtgekadfkokkapaaDoor
open Go.RowKit
set_option maxRecDepth 100000 in
set_option maxHeartbeats 4000000 in
theorem refReg_left_eh4 (n0 : Nat) (A : Option Addr) (c : Nat) (t : Tl) (m : Cm) (w : World) (ho : Own w n0 A c t.rs) (hn : n0 ≤ w.heap.size) (hm : t.rs.length ≤ 200) (hgq : m.ig = true ∨ m.ig = false ∧ (m.ke != keyR t.rs m.ho) = false) (hk : (m.nk != 0) = false) (hw : (keyR t.rs m.ho != 0) = true) (hz : (t.ty != 0) = true) (hh : (t.ho.toList == m.ho.toList) = true) (h3 : (t.ty == 3) = false) (h4 : (t.ty == 4) = true) (T : Tl) (hT : setAp (endT (woT t m)) m = T) :
    Calls Tryd.prog 39 #[tlV A c t, cmV m] w (RdOut n0 w T (evsOf 3 ⟨#[]⟩ (woT t m).rs) (1)) := by
  have HT := Lib.hid hT
  have HG := Lib.hid hgq
  clear hT hgq
  have R0 := Lib.hid (RdAt.from w A c t m ho hn)
  have HM := Lib.hid (show t.rs.length ≤ maxLen by unfold maxLen; omega)
  have HM2 := Lib.hid hm
  have hnt := not_true
  have hnf := not_false
  obtain ⟨nb, hnb⟩ : ∃ nb, nb = w.heap.size := ⟨_, rfl⟩
  clear ho hn hm
  have HK := Lib.hid (fun v (hl2 : Rgs v A t.rs) => refKey_any A c t m.ho v hl2 HM.out)
  go_enter Tryd.func39, Tryd.ntmps39
  go_upto_region 1 with (fail)
  change Code.wp _ _ _ _ (((w.alloc (.cells (tlC A c t) 27)).alloc (.cells (cmC m) 37)).alloc (.cells tdZ 43))
  generalize ((w.alloc (.cells (tlC A c t) 27)).alloc (.cells (cmC m) 37)).alloc (.cells tdZ 43) = v0 at *
  rw [← hnb] at R0 ⊢
  clear hnb
  have c0 : v0.cell? ⟨nb, 0, none⟩ = some (.slice A t.rs.length c) := R0.out.box.cell 0
  have c1 : v0.cell? ⟨nb, 1, none⟩ = some (.int .i64 t.ty) := R0.out.box.cell 1
  have c2 : v0.cell? ⟨nb, 2, none⟩ = some (.string t.ho) := R0.out.box.cell 2
  have c3 : v0.cell? ⟨nb, 3, none⟩ = some (.int .u32 t.ge) := R0.out.box.cell 3
  have c4 : v0.cell? ⟨nb, 4, none⟩ = some (.bool t.ap) := R0.out.box.cell 4
  have m2 : v0.cell? ⟨nb + 1, 2, none⟩ = some (.string m.ho) := R0.out.cmd.cell 2
  go_wp2_with (fail)
  refine (HK.out _ R0.out.own.rgs).mono ?_; rintro e v1 ⟨rfl, hb⟩
  have R1 := Lib.hid (R0.out.below hb)
  clear c0 c1 c2 c3 c4 m2 hb
  have m8 : v1.cell? ⟨nb + 1, 8, none⟩ = some (.int .u64 m.ke) := R1.out.cmd.cell 8
  rcases HG.out with hg | ⟨hg, hq⟩
  all_goals
   have m12 : v1.cell? ⟨nb + 1, 12, none⟩ = some (.bool m.ig) := R1.out.cmd.cell 12
   rw [hg] at m12
   go_upto_region 5 with (fail)
   change Code.wp _ _ _ _ (v1.alloc (.cells (tdC none 0 zT none 0 [] 1) 43))
   have hal := (Below.refl v1.heap.size v1).alloc (Nat.le_refl _) (.cells (tdC none 0 zT none 0 [] 1) 43)
   have R2 := Lib.hid (R1.out.below hal); have HTD := Lib.hid (Blk.new v1 43 (tdC none 0 zT none 0 [] 1))
   obtain ⟨pt, hpt⟩ : ∃ pt, pt = v1.heap.size := ⟨_, rfl⟩
   rw [← hpt] at HTD ⊢
   have HPT := Lib.hid (show nb + 2 < pt by rw [hpt]; exact R1.out.res.lt)
   clear hal hpt m8 m12
   generalize v1.alloc (.cells (tdC none 0 zT none 0 [] 1) 43) = v2 at *
   have m9 : v2.cell? ⟨nb + 1, 9, none⟩ = some (.int .u64 m.nk) := R2.out.cmd.cell 9
   have m2 : v2.cell? ⟨nb + 1, 2, none⟩ = some (.string m.ho) := R2.out.cmd.cell 2
   have c0 : v2.cell? ⟨nb, 0, none⟩ = some (.slice A t.rs.length c) := R2.out.box.cell 0
   go_wp2_with (fail)
   refine (without_any A c t.rs m.ho v2 R2.out.own.rgs (Nat.le_trans HM2.out (by decide))).mono ?_; rintro e v3 ⟨A3, cc, rfl, ho3, hb⟩
   have HO3 := Lib.hid (Own.base ho3 R2.out.lt)
   have HR4 := Lib.hid (R2.out.rows (.inr hb) HO3.out)
   have HTD3 := Lib.hid (HTD.out.below hb HTD.out.lt)
   have c0 : v3.cell? ⟨nb, 0, none⟩ = some (.slice A t.rs.length c) := (R2.out.below hb).box.cell 0
   have f0 := (R2.out.below hb).box.free 0
   clear m9 m2 hb ho3
   go_upto_region 19 with (fail)
   have HTD4 := Lib.hid (HTD3.out.far (p := ⟨nb, 0, none⟩) (by have := HPT.out; show pt ≠ nb; omega) (.slice A3 (t.rs.filter (fun r => !eqS r.h m.ho)).length cc))
   clear c0 f0
   generalize v3.setCell ⟨nb, 0, none⟩ (.slice A3 (t.rs.filter (fun r => !eqS r.h m.ho)).length cc) = v4 at *
   have c3 : v4.cell? ⟨nb, 3, none⟩ = some (.int .u32 t.ge) := HR4.out.box.cell 3
   have f3 := HR4.out.box.free 3
   have hinc : IntKind.u32.wrap (t.ge + 1) = incG t.ge := rfl
   go_upto_region 20 with (fail)
   have R5 := Lib.hid (HR4.out.put 3 (.int .u32 (incG t.ge)) (t' := woT t m) rfl rfl)
   have HTD5 := Lib.hid (HTD4.out.far (p := ⟨nb, 3, none⟩) (by have := HPT.out; show pt ≠ nb; omega) (.int .u32 (incG t.ge)))
   clear c3 f3 hinc HTD
   have HTD := Lib.hid HTD5.out
   generalize v4.setCell ⟨nb, 3, none⟩ (.int .u32 (incG t.ge)) = v5 at *
   have c0 : v5.cell? ⟨nb, 0, none⟩ = some (.slice A3 (woT t m).rs.length cc) := R5.out.box.cell 0
   have c1 : v5.cell? ⟨nb, 1, none⟩ = some (.int .i64 t.ty) := R5.out.box.cell 1
   have c2 : v5.cell? ⟨nb, 2, none⟩ = some (.string t.ho) := R5.out.box.cell 2
   have m2 : v5.cell? ⟨nb + 1, 2, none⟩ = some (.string m.ho) := R5.out.cmd.cell 2
   go_wp2_with (fail)
   refine (events_any A3 cc (woT t m).rs ⟨#[]⟩ 3 v5 R5.out.own.rgs (show (woT t m).rs.length ≤ 1000 from Nat.le_trans (List.length_filter_le _ t.rs) (Nat.le_trans HM2.out (by decide)))).mono ?_; rintro e v6 ⟨B, kk, rfl, he, hb⟩
   have R6 := Lib.hid (R5.out.below hb); have HTD6 := Lib.hid (HTD.out.below hb HTD.out.lt); have HE6 := Lib.hid (OwnE.base he R5.out.lt)
   clear c0 c1 c2 m2 he hb
   have d5 : v6.cell? ⟨pt, 5, none⟩ = some (.slice none 0 0) := HTD6.out.cell 5
   have g5 := HTD6.out.free 5
   go_upto_region 23 with (fail)
   have hop : Only (fun k => k = pt) v6 (v6.setCell ⟨pt, 5, none⟩ (.slice B (evsOf 3 ⟨#[]⟩ (woT t m).rs).length kk)) := (Only.refl (fun k => k = pt) v6).setCell (.inl rfl) _
   have R7 := Lib.hid (R6.out.far HTD6.out HPT.out hop)
   have HTD7 : Hid (Blk (v6.setCell ⟨pt, 5, none⟩ (.slice B (evsOf 3 ⟨#[]⟩ (woT t m).rs).length kk)) pt 43 (tdC none 0 zT B kk (evsOf 3 ⟨#[]⟩ (woT t m).rs) 1)) := Lib.hid (HTD6.out.put 5 _)
   have HE7 : Hid (OwnE (v6.setCell ⟨pt, 5, none⟩ (.slice B (evsOf 3 ⟨#[]⟩ (woT t m).rs).length kk)) n0 B kk (evsOf 3 ⟨#[]⟩ (woT t m).rs)) := Lib.hid (evs_far HE6.out HTD6.out hop)
   clear d5 g5 hop HTD
   have HTD := Lib.hid HTD7.out
   generalize v6.setCell ⟨pt, 5, none⟩ (.slice B (evsOf 3 ⟨#[]⟩ (woT t m).rs).length kk) = v7 at *
   have c1 : v7.cell? ⟨nb, 1, none⟩ = some (.int .i64 t.ty) := R7.out.box.cell 1
   have c2 : v7.cell? ⟨nb, 2, none⟩ = some (.string t.ho) := R7.out.box.cell 2
   have f1 := R7.out.box.free 1
   have f2 := R7.out.box.free 2
   go_upto_region 24 with (fail)
   have R8 := Lib.hid ((R7.out.put 1 (.int .i64 0) (t' := { (woT t m) with ty := 0 }) rfl rfl).put 2 (.string ⟨#[]⟩) (t' := endT (woT t m)) rfl rfl)
   have HTD8 := Lib.hid (HTD.out.far (p := ⟨nb, 1, none⟩) (by have := HPT.out; show pt ≠ nb; omega) (.int .i64 0))
   have HTD9 := Lib.hid (HTD8.out.far (p := ⟨nb, 2, none⟩) (by have := HPT.out; show pt ≠ nb; omega) (.string ⟨#[]⟩))
   have HE8 := Lib.hid (RdAt.evs R7.out HE7.out (i := 1) (j := 2) (x := .int .i64 0) (y := .string ⟨#[]⟩))
   clear c1 c2 f1 f2 HTD
   have HTD := Lib.hid HTD9.out
   generalize (v7.setCell ⟨nb, 1, none⟩ (.int .i64 0)).setCell ⟨nb, 2, none⟩ (.string ⟨#[]⟩) = v8 at *
   have m13 : v8.cell? ⟨nb + 1, 13, none⟩ = some (.int .i64 m.ap) := R8.out.cmd.cell 13
   rcases ap3 m with ⟨h1, h2⟩ | ⟨h1, h2⟩ | ⟨h1, h2⟩
   all_goals
    first
    | have hx : (m.ap == 2) = true := h2
      clear hx
      have c4 : v8.cell? ⟨nb, 4, none⟩ = some (.bool (endT (woT t m)).ap) := R8.out.box.cell 4
      have f4 : v8.frozen? ⟨nb, 4, none⟩ = false := R8.out.box.free 4
      go_upto_region 26 with (fail)
      have RA := Lib.hid (RdAt.as (R8.out.put 4 (.bool true) (t' := { ((endT (woT t m))) with ap := true }) rfl rfl) ((sa2 h1 h2).symm.trans HT.out))
      have HTA := Lib.hid (HTD.out.far (p := ⟨nb, 4, none⟩) (by have := HPT.out; show pt ≠ nb; omega) (.bool true))
      have HEA := Lib.hid (evs_put HE8.out R8.out.box (i := 4) (x := .bool true))
      clear c4 f4 m13
      generalize v8.setCell ⟨nb, 4, none⟩ (.bool true) = va at *
    | have hx : (m.ap == 1) = true := h1
      clear hx
      have c4 : v8.cell? ⟨nb, 4, none⟩ = some (.bool (endT (woT t m)).ap) := R8.out.box.cell 4
      have f4 : v8.frozen? ⟨nb, 4, none⟩ = false := R8.out.box.free 4
      go_upto_region 26 with (fail)
      have RA := Lib.hid (RdAt.as (R8.out.put 4 (.bool false) (t' := { ((endT (woT t m))) with ap := false }) rfl rfl) ((sa1 h1).symm.trans HT.out))
      have HTA := Lib.hid (HTD.out.far (p := ⟨nb, 4, none⟩) (by have := HPT.out; show pt ≠ nb; omega) (.bool false))
      have HEA := Lib.hid (evs_put HE8.out R8.out.box (i := 4) (x := .bool false))
      clear c4 f4 m13
      generalize v8.setCell ⟨nb, 4, none⟩ (.bool false) = va at *
    | go_upto_region 26 with (fail)
      have RA := Lib.hid (RdAt.as (R8.out) ((sa0 h1 h2).symm.trans HT.out))
      have HTA := Lib.hid HTD.out
      have HEA := Lib.hid HE8.out
      clear m13
      generalize hva : v8 = va at *
      clear hva
    have c0 : va.cell? ⟨nb, 0, none⟩ = some (.slice A3 T.rs.length cc) := RA.out.box.cell 0
    have c1 : va.cell? ⟨nb, 1, none⟩ = some (.int .i64 T.ty) := RA.out.box.cell 1
    have c2 : va.cell? ⟨nb, 2, none⟩ = some (.string T.ho) := RA.out.box.cell 2
    have c3 : va.cell? ⟨nb, 3, none⟩ = some (.int .u32 T.ge) := RA.out.box.cell 3
    have c4 : va.cell? ⟨nb, 4, none⟩ = some (.bool T.ap) := RA.out.box.cell 4
    have d0 : va.cell? ⟨pt, 0, none⟩ = some (.slice none 0 0) := HTA.out.cell 0
    have g0 : va.frozen? ⟨pt, 0, none⟩ = false := HTA.out.free 0
    have d1 : va.cell? ⟨pt, 1, none⟩ = some (.int .i64 0) := HTA.out.cell 1
    have g1 : va.frozen? ⟨pt, 1, none⟩ = false := HTA.out.free 1
    have d2 : va.cell? ⟨pt, 2, none⟩ = some (.string ⟨#[]⟩) := HTA.out.cell 2
    have g2 : va.frozen? ⟨pt, 2, none⟩ = false := HTA.out.free 2
    have d3 : va.cell? ⟨pt, 3, none⟩ = some (.int .u32 0) := HTA.out.cell 3
    have g3 : va.frozen? ⟨pt, 3, none⟩ = false := HTA.out.free 3
    have d4 : va.cell? ⟨pt, 4, none⟩ = some (.bool false) := HTA.out.cell 4
    have g4 : va.frozen? ⟨pt, 4, none⟩ = false := HTA.out.free 4
    go_upto_region 27 with (fail)
    obtain ⟨hTB, hTO⟩ := told_put (A := A3) (c := cc) (t := T) HTA.out _ rfl
    have RB := Lib.hid (RA.out.far HTA.out HPT.out hTO); have HTB := Lib.hid hTB; have HEB := Lib.hid (evs_far HEA.out HTA.out hTO)
    clear hTB hTO c0 c1 c2 c3 c4 d0 d1 d2 d3 d4 g0 g1 g2 g3 g4
    generalize ((((va.setCell ⟨pt, 0, none⟩ (.slice A3 T.rs.length cc)).setCell ⟨pt, 1, none⟩ (.int .i64 T.ty)).setCell ⟨pt, 2, none⟩ (.string T.ho)).setCell ⟨pt, 3, none⟩ (.int .u32 T.ge)).setCell ⟨pt, 4, none⟩ (.bool T.ap) = vb at *
    have d0 : vb.cell? ⟨pt, 0, none⟩ = some (.slice A3 T.rs.length cc) := HTB.out.cell 0
    have d1 : vb.cell? ⟨pt, 1, none⟩ = some (.int .i64 T.ty) := HTB.out.cell 1
    have d2 : vb.cell? ⟨pt, 2, none⟩ = some (.string T.ho) := HTB.out.cell 2
    have d3 : vb.cell? ⟨pt, 3, none⟩ = some (.int .u32 T.ge) := HTB.out.cell 3
    have d4 : vb.cell? ⟨pt, 4, none⟩ = some (.bool T.ap) := HTB.out.cell 4
    have d5 : vb.cell? ⟨pt, 5, none⟩ = some (.slice B (evsOf 3 ⟨#[]⟩ (woT t m).rs).length kk) := HTB.out.cell 5
    have d6 : vb.cell? ⟨pt, 6, none⟩ = some (.int .i64 1) := HTB.out.cell 6
    have r0 : vb.cell? ⟨nb + 1 + 1, 0, none⟩ = some (.slice none 0 0) := RB.out.res.cell 0
    have q0 : vb.frozen? ⟨nb + 1 + 1, 0, none⟩ = false := RB.out.res.free 0
    have r1 : vb.cell? ⟨nb + 1 + 1, 1, none⟩ = some (.int .i64 0) := RB.out.res.cell 1
    have q1 : vb.frozen? ⟨nb + 1 + 1, 1, none⟩ = false := RB.out.res.free 1
    have r2 : vb.cell? ⟨nb + 1 + 1, 2, none⟩ = some (.string ⟨#[]⟩) := RB.out.res.cell 2
    have q2 : vb.frozen? ⟨nb + 1 + 1, 2, none⟩ = false := RB.out.res.free 2
    have r3 : vb.cell? ⟨nb + 1 + 1, 3, none⟩ = some (.int .u32 0) := RB.out.res.cell 3
    have q3 : vb.frozen? ⟨nb + 1 + 1, 3, none⟩ = false := RB.out.res.free 3
    have r4 : vb.cell? ⟨nb + 1 + 1, 4, none⟩ = some (.bool false) := RB.out.res.cell 4
    have q4 : vb.frozen? ⟨nb + 1 + 1, 4, none⟩ = false := RB.out.res.free 4
    have r5 : vb.cell? ⟨nb + 1 + 1, 5, none⟩ = some (.slice none 0 0) := RB.out.res.cell 5
    have q5 : vb.frozen? ⟨nb + 1 + 1, 5, none⟩ = false := RB.out.res.free 5
    have r6 : vb.cell? ⟨nb + 1 + 1, 6, none⟩ = some (.int .i64 0) := RB.out.res.cell 6
    have q6 : vb.frozen? ⟨nb + 1 + 1, 6, none⟩ = false := RB.out.res.free 6
    go_wp2_with (fail)
    obtain ⟨hK, hO, hB⟩ := td_put RB.out HEB.out (1) _ rfl
    refine bodyPost_ret_by (results_cell_row rfl _ _ (nb + 1 + 1) 43 (tdC A3 cc T B kk (evsOf 3 ⟨#[]⟩ (woT t m).rs) (1)) (0, 0) _ rfl hK Tryd.underlying43 rfl size43) rfl ?_
    exact ⟨A3, cc, B, kk, rfl, hO.1, hO.2, hB⟩
set_option maxRecDepth 100000 in
set_option maxHeartbeats 4000000 in
theorem refReg_left_el0 (n0 : Nat) (A : Option Addr) (c : Nat) (t : Tl) (m : Cm) (w : World) (ho : Own w n0 A c t.rs) (hn : n0 ≤ w.heap.size) (hm : t.rs.length ≤ 200) (hgq : m.ig = true ∨ m.ig = false ∧ (m.ke != keyR t.rs m.ho) = false) (hk : (m.nk != 0) = false) (hw : (keyR t.rs m.ho != 0) = true) (hz : (t.ty != 0) = true) (hh : (t.ho.toList == m.ho.toList) = false) (hl : (((woT t m).rs.length : Int) == 0) = true) (h3 : (t.ty == 3) = false) (h4 : (t.ty == 4) = false) (T : Tl) (hT : setAp (endT (woT t m)) m = T) :
    Calls Tryd.prog 39 #[tlV A c t, cmV m] w (RdOut n0 w T ([]) (1)) := by
  have HT := Lib.hid hT
  have HG := Lib.hid hgq
  clear hT hgq
  have R0 := Lib.hid (RdAt.from w A c t m ho hn)
  have HM := Lib.hid (show t.rs.length ≤ maxLen by unfold maxLen; omega)
  have HM2 := Lib.hid hm
  have hnt := not_true
  have hnf := not_false
  obtain ⟨nb, hnb⟩ : ∃ nb, nb = w.heap.size := ⟨_, rfl⟩
  clear ho hn hm
  have HK := Lib.hid (fun v (hl2 : Rgs v A t.rs) => refKey_any A c t m.ho v hl2 HM.out)
  go_enter Tryd.func39, Tryd.ntmps39
  go_upto_region 1 with (fail)
  change Code.wp _ _ _ _ (((w.alloc (.cells (tlC A c t) 27)).alloc (.cells (cmC m) 37)).alloc (.cells tdZ 43))
  generalize ((w.alloc (.cells (tlC A c t) 27)).alloc (.cells (cmC m) 37)).alloc (.cells tdZ 43) = v0 at *
  rw [← hnb] at R0 ⊢
  clear hnb
  have c0 : v0.cell? ⟨nb, 0, none⟩ = some (.slice A t.rs.length c) := R0.out.box.cell 0
  have c1 : v0.cell? ⟨nb, 1, none⟩ = some (.int .i64 t.ty) := R0.out.box.cell 1
  have c2 : v0.cell? ⟨nb, 2, none⟩ = some (.string t.ho) := R0.out.box.cell 2
  have c3 : v0.cell? ⟨nb, 3, none⟩ = some (.int .u32 t.ge) := R0.out.box.cell 3
  have c4 : v0.cell? ⟨nb, 4, none⟩ = some (.bool t.ap) := R0.out.box.cell 4
  have m2 : v0.cell? ⟨nb + 1, 2, none⟩ = some (.string m.ho) := R0.out.cmd.cell 2
  go_wp2_with (fail)
  refine (HK.out _ R0.out.own.rgs).mono ?_; rintro e v1 ⟨rfl, hb⟩
  have R1 := Lib.hid (R0.out.below hb)
  clear c0 c1 c2 c3 c4 m2 hb
  have m8 : v1.cell? ⟨nb + 1, 8, none⟩ = some (.int .u64 m.ke) := R1.out.cmd.cell 8
  rcases HG.out with hg | ⟨hg, hq⟩
  all_goals
   have m12 : v1.cell? ⟨nb + 1, 12, none⟩ = some (.bool m.ig) := R1.out.cmd.cell 12
   rw [hg] at m12
   go_upto_region 5 with (fail)
   change Code.wp _ _ _ _ (v1.alloc (.cells (tdC none 0 zT none 0 [] 1) 43))
   have hal := (Below.refl v1.heap.size v1).alloc (Nat.le_refl _) (.cells (tdC none 0 zT none 0 [] 1) 43)
   have R2 := Lib.hid (R1.out.below hal); have HTD := Lib.hid (Blk.new v1 43 (tdC none 0 zT none 0 [] 1))
   obtain ⟨pt, hpt⟩ : ∃ pt, pt = v1.heap.size := ⟨_, rfl⟩
   rw [← hpt] at HTD ⊢
   have HPT := Lib.hid (show nb + 2 < pt by rw [hpt]; exact R1.out.res.lt)
   clear hal hpt m8 m12
   generalize v1.alloc (.cells (tdC none 0 zT none 0 [] 1) 43) = v2 at *
   have m9 : v2.cell? ⟨nb + 1, 9, none⟩ = some (.int .u64 m.nk) := R2.out.cmd.cell 9
   have m2 : v2.cell? ⟨nb + 1, 2, none⟩ = some (.string m.ho) := R2.out.cmd.cell 2
   have c0 : v2.cell? ⟨nb, 0, none⟩ = some (.slice A t.rs.length c) := R2.out.box.cell 0
   go_wp2_with (fail)
   refine (without_any A c t.rs m.ho v2 R2.out.own.rgs (Nat.le_trans HM2.out (by decide))).mono ?_; rintro e v3 ⟨A3, cc, rfl, ho3, hb⟩
   have HO3 := Lib.hid (Own.base ho3 R2.out.lt)
   have HR4 := Lib.hid (R2.out.rows (.inr hb) HO3.out)
   have HTD3 := Lib.hid (HTD.out.below hb HTD.out.lt)
   have c0 : v3.cell? ⟨nb, 0, none⟩ = some (.slice A t.rs.length c) := (R2.out.below hb).box.cell 0
   have f0 := (R2.out.below hb).box.free 0
   clear m9 m2 hb ho3
   go_upto_region 19 with (fail)
   have HTD4 := Lib.hid (HTD3.out.far (p := ⟨nb, 0, none⟩) (by have := HPT.out; show pt ≠ nb; omega) (.slice A3 (t.rs.filter (fun r => !eqS r.h m.ho)).length cc))
   clear c0 f0
   generalize v3.setCell ⟨nb, 0, none⟩ (.slice A3 (t.rs.filter (fun r => !eqS r.h m.ho)).length cc) = v4 at *
   have c3 : v4.cell? ⟨nb, 3, none⟩ = some (.int .u32 t.ge) := HR4.out.box.cell 3
   have f3 := HR4.out.box.free 3
   have hinc : IntKind.u32.wrap (t.ge + 1) = incG t.ge := rfl
   go_upto_region 20 with (fail)
   have R5 := Lib.hid (HR4.out.put 3 (.int .u32 (incG t.ge)) (t' := woT t m) rfl rfl)
   have HTD5 := Lib.hid (HTD4.out.far (p := ⟨nb, 3, none⟩) (by have := HPT.out; show pt ≠ nb; omega) (.int .u32 (incG t.ge)))
   clear c3 f3 hinc HTD
   have HTD := Lib.hid HTD5.out
   generalize v4.setCell ⟨nb, 3, none⟩ (.int .u32 (incG t.ge)) = v5 at *
   have c0 : v5.cell? ⟨nb, 0, none⟩ = some (.slice A3 (woT t m).rs.length cc) := R5.out.box.cell 0
   have c1 : v5.cell? ⟨nb, 1, none⟩ = some (.int .i64 t.ty) := R5.out.box.cell 1
   have c2 : v5.cell? ⟨nb, 2, none⟩ = some (.string t.ho) := R5.out.box.cell 2
   have m2 : v5.cell? ⟨nb + 1, 2, none⟩ = some (.string m.ho) := R5.out.cmd.cell 2
   go_upto_region 23 with (fail)
   clear c0 c1 c2 m2
   have c1 : v5.cell? ⟨nb, 1, none⟩ = some (.int .i64 t.ty) := R5.out.box.cell 1
   have c2 : v5.cell? ⟨nb, 2, none⟩ = some (.string t.ho) := R5.out.box.cell 2
   have f1 := R5.out.box.free 1
   have f2 := R5.out.box.free 2
   go_upto_region 24 with (fail)
   have R8 := Lib.hid ((R5.out.put 1 (.int .i64 0) (t' := { (woT t m) with ty := 0 }) rfl rfl).put 2 (.string ⟨#[]⟩) (t' := endT (woT t m)) rfl rfl)
   have HTD8 := Lib.hid (HTD.out.far (p := ⟨nb, 1, none⟩) (by have := HPT.out; show pt ≠ nb; omega) (.int .i64 0))
   have HTD9 := Lib.hid (HTD8.out.far (p := ⟨nb, 2, none⟩) (by have := HPT.out; show pt ≠ nb; omega) (.string ⟨#[]⟩))
   clear c1 c2 f1 f2 HTD
   have HTD := Lib.hid HTD9.out
   generalize (v5.setCell ⟨nb, 1, none⟩ (.int .i64 0)).setCell ⟨nb, 2, none⟩ (.string ⟨#[]⟩) = v8 at *
   have m13 : v8.cell? ⟨nb + 1, 13, none⟩ = some (.int .i64 m.ap) := R8.out.cmd.cell 13
   rcases ap3 m with ⟨h1, h2⟩ | ⟨h1, h2⟩ | ⟨h1, h2⟩
   all_goals
    first
    | have hx : (m.ap == 2) = true := h2
      clear hx
      have c4 : v8.cell? ⟨nb, 4, none⟩ = some (.bool (endT (woT t m)).ap) := R8.out.box.cell 4
      have f4 : v8.frozen? ⟨nb, 4, none⟩ = false := R8.out.box.free 4
      go_upto_region 26 with (fail)
      have RA := Lib.hid (RdAt.as (R8.out.put 4 (.bool true) (t' := { ((endT (woT t m))) with ap := true }) rfl rfl) ((sa2 h1 h2).symm.trans HT.out))
      have HTA := Lib.hid (HTD.out.far (p := ⟨nb, 4, none⟩) (by have := HPT.out; show pt ≠ nb; omega) (.bool true))
      clear c4 f4 m13
      generalize v8.setCell ⟨nb, 4, none⟩ (.bool true) = va at *
    | have hx : (m.ap == 1) = true := h1
      clear hx
      have c4 : v8.cell? ⟨nb, 4, none⟩ = some (.bool (endT (woT t m)).ap) := R8.out.box.cell 4
      have f4 : v8.frozen? ⟨nb, 4, none⟩ = false := R8.out.box.free 4
      go_upto_region 26 with (fail)
      have RA := Lib.hid (RdAt.as (R8.out.put 4 (.bool false) (t' := { ((endT (woT t m))) with ap := false }) rfl rfl) ((sa1 h1).symm.trans HT.out))
      have HTA := Lib.hid (HTD.out.far (p := ⟨nb, 4, none⟩) (by have := HPT.out; show pt ≠ nb; omega) (.bool false))
      clear c4 f4 m13
      generalize v8.setCell ⟨nb, 4, none⟩ (.bool false) = va at *
    | go_upto_region 26 with (fail)
      have RA := Lib.hid (RdAt.as (R8.out) ((sa0 h1 h2).symm.trans HT.out))
      have HTA := Lib.hid HTD.out
      clear m13
      generalize hva : v8 = va at *
      clear hva
    have c0 : va.cell? ⟨nb, 0, none⟩ = some (.slice A3 T.rs.length cc) := RA.out.box.cell 0
    have c1 : va.cell? ⟨nb, 1, none⟩ = some (.int .i64 T.ty) := RA.out.box.cell 1
    have c2 : va.cell? ⟨nb, 2, none⟩ = some (.string T.ho) := RA.out.box.cell 2
    have c3 : va.cell? ⟨nb, 3, none⟩ = some (.int .u32 T.ge) := RA.out.box.cell 3
    have c4 : va.cell? ⟨nb, 4, none⟩ = some (.bool T.ap) := RA.out.box.cell 4
    have d0 : va.cell? ⟨pt, 0, none⟩ = some (.slice none 0 0) := HTA.out.cell 0
    have g0 : va.frozen? ⟨pt, 0, none⟩ = false := HTA.out.free 0
    have d1 : va.cell? ⟨pt, 1, none⟩ = some (.int .i64 0) := HTA.out.cell 1
    have g1 : va.frozen? ⟨pt, 1, none⟩ = false := HTA.out.free 1
    have d2 : va.cell? ⟨pt, 2, none⟩ = some (.string ⟨#[]⟩) := HTA.out.cell 2
    have g2 : va.frozen? ⟨pt, 2, none⟩ = false := HTA.out.free 2
    have d3 : va.cell? ⟨pt, 3, none⟩ = some (.int .u32 0) := HTA.out.cell 3
    have g3 : va.frozen? ⟨pt, 3, none⟩ = false := HTA.out.free 3
    have d4 : va.cell? ⟨pt, 4, none⟩ = some (.bool false) := HTA.out.cell 4
    have g4 : va.frozen? ⟨pt, 4, none⟩ = false := HTA.out.free 4
    go_upto_region 27 with (fail)
    obtain ⟨hTB, hTO⟩ := told_put (A := A3) (c := cc) (t := T) HTA.out _ rfl
    have RB := Lib.hid (RA.out.far HTA.out HPT.out hTO); have HTB := Lib.hid hTB
    clear hTB hTO c0 c1 c2 c3 c4 d0 d1 d2 d3 d4 g0 g1 g2 g3 g4
    generalize ((((va.setCell ⟨pt, 0, none⟩ (.slice A3 T.rs.length cc)).setCell ⟨pt, 1, none⟩ (.int .i64 T.ty)).setCell ⟨pt, 2, none⟩ (.string T.ho)).setCell ⟨pt, 3, none⟩ (.int .u32 T.ge)).setCell ⟨pt, 4, none⟩ (.bool T.ap) = vb at *
    have d0 : vb.cell? ⟨pt, 0, none⟩ = some (.slice A3 T.rs.length cc) := HTB.out.cell 0
    have d1 : vb.cell? ⟨pt, 1, none⟩ = some (.int .i64 T.ty) := HTB.out.cell 1
    have d2 : vb.cell? ⟨pt, 2, none⟩ = some (.string T.ho) := HTB.out.cell 2
    have d3 : vb.cell? ⟨pt, 3, none⟩ = some (.int .u32 T.ge) := HTB.out.cell 3
    have d4 : vb.cell? ⟨pt, 4, none⟩ = some (.bool T.ap) := HTB.out.cell 4
    have d5 : vb.cell? ⟨pt, 5, none⟩ = some (.slice none 0 0) := HTB.out.cell 5
    have d6 : vb.cell? ⟨pt, 6, none⟩ = some (.int .i64 1) := HTB.out.cell 6
    have r0 : vb.cell? ⟨nb + 1 + 1, 0, none⟩ = some (.slice none 0 0) := RB.out.res.cell 0
    have q0 : vb.frozen? ⟨nb + 1 + 1, 0, none⟩ = false := RB.out.res.free 0
    have r1 : vb.cell? ⟨nb + 1 + 1, 1, none⟩ = some (.int .i64 0) := RB.out.res.cell 1
    have q1 : vb.frozen? ⟨nb + 1 + 1, 1, none⟩ = false := RB.out.res.free 1
    have r2 : vb.cell? ⟨nb + 1 + 1, 2, none⟩ = some (.string ⟨#[]⟩) := RB.out.res.cell 2
    have q2 : vb.frozen? ⟨nb + 1 + 1, 2, none⟩ = false := RB.out.res.free 2
    have r3 : vb.cell? ⟨nb + 1 + 1, 3, none⟩ = some (.int .u32 0) := RB.out.res.cell 3
    have q3 : vb.frozen? ⟨nb + 1 + 1, 3, none⟩ = false := RB.out.res.free 3
    have r4 : vb.cell? ⟨nb + 1 + 1, 4, none⟩ = some (.bool false) := RB.out.res.cell 4
    have q4 : vb.frozen? ⟨nb + 1 + 1, 4, none⟩ = false := RB.out.res.free 4
    have r5 : vb.cell? ⟨nb + 1 + 1, 5, none⟩ = some (.slice none 0 0) := RB.out.res.cell 5
    have q5 : vb.frozen? ⟨nb + 1 + 1, 5, none⟩ = false := RB.out.res.free 5
    have r6 : vb.cell? ⟨nb + 1 + 1, 6, none⟩ = some (.int .i64 0) := RB.out.res.cell 6
    have q6 : vb.frozen? ⟨nb + 1 + 1, 6, none⟩ = false := RB.out.res.free 6
    go_wp2_with (fail)
    obtain ⟨hK, hO, hB⟩ := td_put RB.out (OwnE.nil _ n0) (1) _ rfl
    refine bodyPost_ret_by (results_cell_row rfl _ _ (nb + 1 + 1) 43 (tdC A3 cc T none 0 ([]) (1)) (0, 0) _ rfl hK Tryd.underlying43 rfl size43) rfl ?_
    exact ⟨A3, cc, none, 0, rfl, hO.1, hO.2, hB⟩
set_option maxRecDepth 100000 in
set_option maxHeartbeats 4000000 in
theorem refReg_left_el3 (n0 : Nat) (A : Option Addr) (c : Nat) (t : Tl) (m : Cm) (w : World) (ho : Own w n0 A c t.rs) (hn : n0 ≤ w.heap.size) (hm : t.rs.length ≤ 200) (hgq : m.ig = true ∨ m.ig = false ∧ (m.ke != keyR t.rs m.ho) = false) (hk : (m.nk != 0) = false) (hw : (keyR t.rs m.ho != 0) = true) (hz : (t.ty != 0) = true) (hh : (t.ho.toList == m.ho.toList) = false) (hl : (((woT t m).rs.length : Int) == 0) = true) (h3 : (t.ty == 3) = true) (T : Tl) (hT : setAp (endT (woT t m)) m = T) :
    Calls Tryd.prog 39 #[tlV A c t, cmV m] w (RdOut n0 w T (evsOf 3 ⟨#[]⟩ (woT t m).rs) (1)) := by
  have HT := Lib.hid hT
  have HG := Lib.hid hgq
  clear hT hgq
  have R0 := Lib.hid (RdAt.from w A c t m ho hn)
  have HM := Lib.hid (show t.rs.length ≤ maxLen by unfold maxLen; omega)
  have HM2 := Lib.hid hm
  have hnt := not_true
  have hnf := not_false
  obtain ⟨nb, hnb⟩ : ∃ nb, nb = w.heap.size := ⟨_, rfl⟩
  clear ho hn hm
  have HK := Lib.hid (fun v (hl2 : Rgs v A t.rs) => refKey_any A c t m.ho v hl2 HM.out)
  go_enter Tryd.func39, Tryd.ntmps39
  go_upto_region 1 with (fail)
  change Code.wp _ _ _ _ (((w.alloc (.cells (tlC A c t) 27)).alloc (.cells (cmC m) 37)).alloc (.cells tdZ 43))
  generalize ((w.alloc (.cells (tlC A c t) 27)).alloc (.cells (cmC m) 37)).alloc (.cells tdZ 43) = v0 at *
  rw [← hnb] at R0 ⊢
  clear hnb
  have c0 : v0.cell? ⟨nb, 0, none⟩ = some (.slice A t.rs.length c) := R0.out.box.cell 0
  have c1 : v0.cell? ⟨nb, 1, none⟩ = some (.int .i64 t.ty) := R0.out.box.cell 1
  have c2 : v0.cell? ⟨nb, 2, none⟩ = some (.string t.ho) := R0.out.box.cell 2
  have c3 : v0.cell? ⟨nb, 3, none⟩ = some (.int .u32 t.ge) := R0.out.box.cell 3
  have c4 : v0.cell? ⟨nb, 4, none⟩ = some (.bool t.ap) := R0.out.box.cell 4
  have m2 : v0.cell? ⟨nb + 1, 2, none⟩ = some (.string m.ho) := R0.out.cmd.cell 2
  go_wp2_with (fail)
  refine (HK.out _ R0.out.own.rgs).mono ?_; rintro e v1 ⟨rfl, hb⟩
  have R1 := Lib.hid (R0.out.below hb)
  clear c0 c1 c2 c3 c4 m2 hb
  have m8 : v1.cell? ⟨nb + 1, 8, none⟩ = some (.int .u64 m.ke) := R1.out.cmd.cell 8
  rcases HG.out with hg | ⟨hg, hq⟩
  all_goals
   have m12 : v1.cell? ⟨nb + 1, 12, none⟩ = some (.bool m.ig) := R1.out.cmd.cell 12
   rw [hg] at m12
   go_upto_region 5 with (fail)
   change Code.wp _ _ _ _ (v1.alloc (.cells (tdC none 0 zT none 0 [] 1) 43))
   have hal := (Below.refl v1.heap.size v1).alloc (Nat.le_refl _) (.cells (tdC none 0 zT none 0 [] 1) 43)
   have R2 := Lib.hid (R1.out.below hal); have HTD := Lib.hid (Blk.new v1 43 (tdC none 0 zT none 0 [] 1))
   obtain ⟨pt, hpt⟩ : ∃ pt, pt = v1.heap.size := ⟨_, rfl⟩
   rw [← hpt] at HTD ⊢
   have HPT := Lib.hid (show nb + 2 < pt by rw [hpt]; exact R1.out.res.lt)
   clear hal hpt m8 m12
   generalize v1.alloc (.cells (tdC none 0 zT none 0 [] 1) 43) = v2 at *
   have m9 : v2.cell? ⟨nb + 1, 9, none⟩ = some (.int .u64 m.nk) := R2.out.cmd.cell 9
   have m2 : v2.cell? ⟨nb + 1, 2, none⟩ = some (.string m.ho) := R2.out.cmd.cell 2
   have c0 : v2.cell? ⟨nb, 0, none⟩ = some (.slice A t.rs.length c) := R2.out.box.cell 0
   go_wp2_with (fail)
   refine (without_any A c t.rs m.ho v2 R2.out.own.rgs (Nat.le_trans HM2.out (by decide))).mono ?_; rintro e v3 ⟨A3, cc, rfl, ho3, hb⟩
   have HO3 := Lib.hid (Own.base ho3 R2.out.lt)
   have HR4 := Lib.hid (R2.out.rows (.inr hb) HO3.out)
   have HTD3 := Lib.hid (HTD.out.below hb HTD.out.lt)
   have c0 : v3.cell? ⟨nb, 0, none⟩ = some (.slice A t.rs.length c) := (R2.out.below hb).box.cell 0
   have f0 := (R2.out.below hb).box.free 0
   clear m9 m2 hb ho3
   go_upto_region 19 with (fail)
   have HTD4 := Lib.hid (HTD3.out.far (p := ⟨nb, 0, none⟩) (by have := HPT.out; show pt ≠ nb; omega) (.slice A3 (t.rs.filter (fun r => !eqS r.h m.ho)).length cc))
   clear c0 f0
   generalize v3.setCell ⟨nb, 0, none⟩ (.slice A3 (t.rs.filter (fun r => !eqS r.h m.ho)).length cc) = v4 at *
   have c3 : v4.cell? ⟨nb, 3, none⟩ = some (.int .u32 t.ge) := HR4.out.box.cell 3
   have f3 := HR4.out.box.free 3
   have hinc : IntKind.u32.wrap (t.ge + 1) = incG t.ge := rfl
   go_upto_region 20 with (fail)
   have R5 := Lib.hid (HR4.out.put 3 (.int .u32 (incG t.ge)) (t' := woT t m) rfl rfl)
   have HTD5 := Lib.hid (HTD4.out.far (p := ⟨nb, 3, none⟩) (by have := HPT.out; show pt ≠ nb; omega) (.int .u32 (incG t.ge)))
   clear c3 f3 hinc HTD
   have HTD := Lib.hid HTD5.out
   generalize v4.setCell ⟨nb, 3, none⟩ (.int .u32 (incG t.ge)) = v5 at *
   have c0 : v5.cell? ⟨nb, 0, none⟩ = some (.slice A3 (woT t m).rs.length cc) := R5.out.box.cell 0
   have c1 : v5.cell? ⟨nb, 1, none⟩ = some (.int .i64 t.ty) := R5.out.box.cell 1
   have c2 : v5.cell? ⟨nb, 2, none⟩ = some (.string t.ho) := R5.out.box.cell 2
   have m2 : v5.cell? ⟨nb + 1, 2, none⟩ = some (.string m.ho) := R5.out.cmd.cell 2
   go_wp2_with (fail)
   refine (events_any A3 cc (woT t m).rs ⟨#[]⟩ 3 v5 R5.out.own.rgs (show (woT t m).rs.length ≤ 1000 from Nat.le_trans (List.length_filter_le _ t.rs) (Nat.le_trans HM2.out (by decide)))).mono ?_; rintro e v6 ⟨B, kk, rfl, he, hb⟩
   have R6 := Lib.hid (R5.out.below hb); have HTD6 := Lib.hid (HTD.out.below hb HTD.out.lt); have HE6 := Lib.hid (OwnE.base he R5.out.lt)
   clear c0 c1 c2 m2 he hb
   have d5 : v6.cell? ⟨pt, 5, none⟩ = some (.slice none 0 0) := HTD6.out.cell 5
   have g5 := HTD6.out.free 5
   go_upto_region 23 with (fail)
   have hop : Only (fun k => k = pt) v6 (v6.setCell ⟨pt, 5, none⟩ (.slice B (evsOf 3 ⟨#[]⟩ (woT t m).rs).length kk)) := (Only.refl (fun k => k = pt) v6).setCell (.inl rfl) _
   have R7 := Lib.hid (R6.out.far HTD6.out HPT.out hop)
   have HTD7 : Hid (Blk (v6.setCell ⟨pt, 5, none⟩ (.slice B (evsOf 3 ⟨#[]⟩ (woT t m).rs).length kk)) pt 43 (tdC none 0 zT B kk (evsOf 3 ⟨#[]⟩ (woT t m).rs) 1)) := Lib.hid (HTD6.out.put 5 _)
   have HE7 : Hid (OwnE (v6.setCell ⟨pt, 5, none⟩ (.slice B (evsOf 3 ⟨#[]⟩ (woT t m).rs).length kk)) n0 B kk (evsOf 3 ⟨#[]⟩ (woT t m).rs)) := Lib.hid (evs_far HE6.out HTD6.out hop)
   clear d5 g5 hop HTD
   have HTD := Lib.hid HTD7.out
   generalize v6.setCell ⟨pt, 5, none⟩ (.slice B (evsOf 3 ⟨#[]⟩ (woT t m).rs).length kk) = v7 at *
   have c1 : v7.cell? ⟨nb, 1, none⟩ = some (.int .i64 t.ty) := R7.out.box.cell 1
   have c2 : v7.cell? ⟨nb, 2, none⟩ = some (.string t.ho) := R7.out.box.cell 2
   have f1 := R7.out.box.free 1
   have f2 := R7.out.box.free 2
   go_upto_region 24 with (fail)
   have R8 := Lib.hid ((R7.out.put 1 (.int .i64 0) (t' := { (woT t m) with ty := 0 }) rfl rfl).put 2 (.string ⟨#[]⟩) (t' := endT (woT t m)) rfl rfl)
   have HTD8 := Lib.hid (HTD.out.far (p := ⟨nb, 1, none⟩) (by have := HPT.out; show pt ≠ nb; omega) (.int .i64 0))
   have HTD9 := Lib.hid (HTD8.out.far (p := ⟨nb, 2, none⟩) (by have := HPT.out; show pt ≠ nb; omega) (.string ⟨#[]⟩))
   have HE8 := Lib.hid (RdAt.evs R7.out HE7.out (i := 1) (j := 2) (x := .int .i64 0) (y := .string ⟨#[]⟩))
   clear c1 c2 f1 f2 HTD
   have HTD := Lib.hid HTD9.out
   generalize (v7.setCell ⟨nb, 1, none⟩ (.int .i64 0)).setCell ⟨nb, 2, none⟩ (.string ⟨#[]⟩) = v8 at *
   have m13 : v8.cell? ⟨nb + 1, 13, none⟩ = some (.int .i64 m.ap) := R8.out.cmd.cell 13
   rcases ap3 m with ⟨h1, h2⟩ | ⟨h1, h2⟩ | ⟨h1, h2⟩
   all_goals
    first
    | have hx : (m.ap == 2) = true := h2
      clear hx
      have c4 : v8.cell? ⟨nb, 4, none⟩ = some (.bool (endT (woT t m)).ap) := R8.out.box.cell 4
      have f4 : v8.frozen? ⟨nb, 4, none⟩ = false := R8.out.box.free 4
      go_upto_region 26 with (fail)
      have RA := Lib.hid (RdAt.as (R8.out.put 4 (.bool true) (t' := { ((endT (woT t m))) with ap := true }) rfl rfl) ((sa2 h1 h2).symm.trans HT.out))
      have HTA := Lib.hid (HTD.out.far (p := ⟨nb, 4, none⟩) (by have := HPT.out; show pt ≠ nb; omega) (.bool true))
      have HEA := Lib.hid (evs_put HE8.out R8.out.box (i := 4) (x := .bool true))
      clear c4 f4 m13
      generalize v8.setCell ⟨nb, 4, none⟩ (.bool true) = va at *
    | have hx : (m.ap == 1) = true := h1
      clear hx
      have c4 : v8.cell? ⟨nb, 4, none⟩ = some (.bool (endT (woT t m)).ap) := R8.out.box.cell 4
      have f4 : v8.frozen? ⟨nb, 4, none⟩ = false := R8.out.box.free 4
      go_upto_region 26 with (fail)
      have RA := Lib.hid (RdAt.as (R8.out.put 4 (.bool false) (t' := { ((endT (woT t m))) with ap := false }) rfl rfl) ((sa1 h1).symm.trans HT.out))
      have HTA := Lib.hid (HTD.out.far (p := ⟨nb, 4, none⟩) (by have := HPT.out; show pt ≠ nb; omega) (.bool false))
      have HEA := Lib.hid (evs_put HE8.out R8.out.box (i := 4) (x := .bool false))
      clear c4 f4 m13
      generalize v8.setCell ⟨nb, 4, none⟩ (.bool false) = va at *
    | go_upto_region 26 with (fail)
      have RA := Lib.hid (RdAt.as (R8.out) ((sa0 h1 h2).symm.trans HT.out))
      have HTA := Lib.hid HTD.out
      have HEA := Lib.hid HE8.out
      clear m13
      generalize hva : v8 = va at *
      clear hva
    have c0 : va.cell? ⟨nb, 0, none⟩ = some (.slice A3 T.rs.length cc) := RA.out.box.cell 0
    have c1 : va.cell? ⟨nb, 1, none⟩ = some (.int .i64 T.ty) := RA.out.box.cell 1
    have c2 : va.cell? ⟨nb, 2, none⟩ = some (.string T.ho) := RA.out.box.cell 2
    have c3 : va.cell? ⟨nb, 3, none⟩ = some (.int .u32 T.ge) := RA.out.box.cell 3
    have c4 : va.cell? ⟨nb, 4, none⟩ = some (.bool T.ap) := RA.out.box.cell 4
    have d0 : va.cell? ⟨pt, 0, none⟩ = some (.slice none 0 0) := HTA.out.cell 0
    have g0 : va.frozen? ⟨pt, 0, none⟩ = false := HTA.out.free 0
    have d1 : va.cell? ⟨pt, 1, none⟩ = some (.int .i64 0) := HTA.out.cell 1
    have g1 : va.frozen? ⟨pt, 1, none⟩ = false := HTA.out.free 1
    have d2 : va.cell? ⟨pt, 2, none⟩ = some (.string ⟨#[]⟩) := HTA.out.cell 2
    have g2 : va.frozen? ⟨pt, 2, none⟩ = false := HTA.out.free 2
    have d3 : va.cell? ⟨pt, 3, none⟩ = some (.int .u32 0) := HTA.out.cell 3
    have g3 : va.frozen? ⟨pt, 3, none⟩ = false := HTA.out.free 3
    have d4 : va.cell? ⟨pt, 4, none⟩ = some (.bool false) := HTA.out.cell 4
    have g4 : va.frozen? ⟨pt, 4, none⟩ = false := HTA.out.free 4
    go_upto_region 27 with (fail)
    obtain ⟨hTB, hTO⟩ := told_put (A := A3) (c := cc) (t := T) HTA.out _ rfl
    have RB := Lib.hid (RA.out.far HTA.out HPT.out hTO); have HTB := Lib.hid hTB; have HEB := Lib.hid (evs_far HEA.out HTA.out hTO)
    clear hTB hTO c0 c1 c2 c3 c4 d0 d1 d2 d3 d4 g0 g1 g2 g3 g4
    generalize ((((va.setCell ⟨pt, 0, none⟩ (.slice A3 T.rs.length cc)).setCell ⟨pt, 1, none⟩ (.int .i64 T.ty)).setCell ⟨pt, 2, none⟩ (.string T.ho)).setCell ⟨pt, 3, none⟩ (.int .u32 T.ge)).setCell ⟨pt, 4, none⟩ (.bool T.ap) = vb at *
    have d0 : vb.cell? ⟨pt, 0, none⟩ = some (.slice A3 T.rs.length cc) := HTB.out.cell 0
    have d1 : vb.cell? ⟨pt, 1, none⟩ = some (.int .i64 T.ty) := HTB.out.cell 1
    have d2 : vb.cell? ⟨pt, 2, none⟩ = some (.string T.ho) := HTB.out.cell 2
    have d3 : vb.cell? ⟨pt, 3, none⟩ = some (.int .u32 T.ge) := HTB.out.cell 3
    have d4 : vb.cell? ⟨pt, 4, none⟩ = some (.bool T.ap) := HTB.out.cell 4
    have d5 : vb.cell? ⟨pt, 5, none⟩ = some (.slice B (evsOf 3 ⟨#[]⟩ (woT t m).rs).length kk) := HTB.out.cell 5
    have d6 : vb.cell? ⟨pt, 6, none⟩ = some (.int .i64 1) := HTB.out.cell 6
    have r0 : vb.cell? ⟨nb + 1 + 1, 0, none⟩ = some (.slice none 0 0) := RB.out.res.cell 0
    have q0 : vb.frozen? ⟨nb + 1 + 1, 0, none⟩ = false := RB.out.res.free 0
    have r1 : vb.cell? ⟨nb + 1 + 1, 1, none⟩ = some (.int .i64 0) := RB.out.res.cell 1
    have q1 : vb.frozen? ⟨nb + 1 + 1, 1, none⟩ = false := RB.out.res.free 1
    have r2 : vb.cell? ⟨nb + 1 + 1, 2, none⟩ = some (.string ⟨#[]⟩) := RB.out.res.cell 2
    have q2 : vb.frozen? ⟨nb + 1 + 1, 2, none⟩ = false := RB.out.res.free 2
    have r3 : vb.cell? ⟨nb + 1 + 1, 3, none⟩ = some (.int .u32 0) := RB.out.res.cell 3
    have q3 : vb.frozen? ⟨nb + 1 + 1, 3, none⟩ = false := RB.out.res.free 3
    have r4 : vb.cell? ⟨nb + 1 + 1, 4, none⟩ = some (.bool false) := RB.out.res.cell 4
    have q4 : vb.frozen? ⟨nb + 1 + 1, 4, none⟩ = false := RB.out.res.free 4
    have r5 : vb.cell? ⟨nb + 1 + 1, 5, none⟩ = some (.slice none 0 0) := RB.out.res.cell 5
    have q5 : vb.frozen? ⟨nb + 1 + 1, 5, none⟩ = false := RB.out.res.free 5
    have r6 : vb.cell? ⟨nb + 1 + 1, 6, none⟩ = some (.int .i64 0) := RB.out.res.cell 6
    have q6 : vb.frozen? ⟨nb + 1 + 1, 6, none⟩ = false := RB.out.res.free 6
    go_wp2_with (fail)
    obtain ⟨hK, hO, hB⟩ := td_put RB.out HEB.out (1) _ rfl
    refine bodyPost_ret_by (results_cell_row rfl _ _ (nb + 1 + 1) 43 (tdC A3 cc T B kk (evsOf 3 ⟨#[]⟩ (woT t m).rs) (1)) (0, 0) _ rfl hK Tryd.underlying43 rfl size43) rfl ?_
    exact ⟨A3, cc, B, kk, rfl, hO.1, hO.2, hB⟩
set_option maxRecDepth 100000 in
set_option maxHeartbeats 4000000 in
theorem refReg_left_el4 (n0 : Nat) (A : Option Addr) (c : Nat) (t : Tl) (m : Cm) (w : World) (ho : Own w n0 A c t.rs) (hn : n0 ≤ w.heap.size) (hm : t.rs.length ≤ 200) (hgq : m.ig = true ∨ m.ig = false ∧ (m.ke != keyR t.rs m.ho) = false) (hk : (m.nk != 0) = false) (hw : (keyR t.rs m.ho != 0) = true) (hz : (t.ty != 0) = true) (hh : (t.ho.toList == m.ho.toList) = false) (hl : (((woT t m).rs.length : Int) == 0) = true) (h3 : (t.ty == 3) = false) (h4 : (t.ty == 4) = true) (T : Tl) (hT : setAp (endT (woT t m)) m = T) :
    Calls Tryd.prog 39 #[tlV A c t, cmV m] w (RdOut n0 w T (evsOf 3 ⟨#[]⟩ (woT t m).rs) (1)) := by
  have HT := Lib.hid hT
  have HG := Lib.hid hgq
  clear hT hgq
  have R0 := Lib.hid (RdAt.from w A c t m ho hn)
  have HM := Lib.hid (show t.rs.length ≤ maxLen by unfold maxLen; omega)
  have HM2 := Lib.hid hm
  have hnt := not_true
  have hnf := not_false
  obtain ⟨nb, hnb⟩ : ∃ nb, nb = w.heap.size := ⟨_, rfl⟩
  clear ho hn hm
  have HK := Lib.hid (fun v (hl2 : Rgs v A t.rs) => refKey_any A c t m.ho v hl2 HM.out)
  go_enter Tryd.func39, Tryd.ntmps39
  go_upto_region 1 with (fail)
  change Code.wp _ _ _ _ (((w.alloc (.cells (tlC A c t) 27)).alloc (.cells (cmC m) 37)).alloc (.cells tdZ 43))
  generalize ((w.alloc (.cells (tlC A c t) 27)).alloc (.cells (cmC m) 37)).alloc (.cells tdZ 43) = v0 at *
  rw [← hnb] at R0 ⊢
  clear hnb
  have c0 : v0.cell? ⟨nb, 0, none⟩ = some (.slice A t.rs.length c) := R0.out.box.cell 0
  have c1 : v0.cell? ⟨nb, 1, none⟩ = some (.int .i64 t.ty) := R0.out.box.cell 1
  have c2 : v0.cell? ⟨nb, 2, none⟩ = some (.string t.ho) := R0.out.box.cell 2
  have c3 : v0.cell? ⟨nb, 3, none⟩ = some (.int .u32 t.ge) := R0.out.box.cell 3
  have c4 : v0.cell? ⟨nb, 4, none⟩ = some (.bool t.ap) := R0.out.box.cell 4
  have m2 : v0.cell? ⟨nb + 1, 2, none⟩ = some (.string m.ho) := R0.out.cmd.cell 2
  go_wp2_with (fail)
  refine (HK.out _ R0.out.own.rgs).mono ?_; rintro e v1 ⟨rfl, hb⟩
  have R1 := Lib.hid (R0.out.below hb)
  clear c0 c1 c2 c3 c4 m2 hb
  have m8 : v1.cell? ⟨nb + 1, 8, none⟩ = some (.int .u64 m.ke) := R1.out.cmd.cell 8
  rcases HG.out with hg | ⟨hg, hq⟩
  all_goals
   have m12 : v1.cell? ⟨nb + 1, 12, none⟩ = some (.bool m.ig) := R1.out.cmd.cell 12
   rw [hg] at m12
   go_upto_region 5 with (fail)
   change Code.wp _ _ _ _ (v1.alloc (.cells (tdC none 0 zT none 0 [] 1) 43))
   have hal := (Below.refl v1.heap.size v1).alloc (Nat.le_refl _) (.cells (tdC none 0 zT none 0 [] 1) 43)
   have R2 := Lib.hid (R1.out.below hal); have HTD := Lib.hid (Blk.new v1 43 (tdC none 0 zT none 0 [] 1))
   obtain ⟨pt, hpt⟩ : ∃ pt, pt = v1.heap.size := ⟨_, rfl⟩
   rw [← hpt] at HTD ⊢
   have HPT := Lib.hid (show nb + 2 < pt by rw [hpt]; exact R1.out.res.lt)
   clear hal hpt m8 m12
   generalize v1.alloc (.cells (tdC none 0 zT none 0 [] 1) 43) = v2 at *
   have m9 : v2.cell? ⟨nb + 1, 9, none⟩ = some (.int .u64 m.nk) := R2.out.cmd.cell 9
   have m2 : v2.cell? ⟨nb + 1, 2, none⟩ = some (.string m.ho) := R2.out.cmd.cell 2
   have c0 : v2.cell? ⟨nb, 0, none⟩ = some (.slice A t.rs.length c) := R2.out.box.cell 0
   go_wp2_with (fail)
   refine (without_any A c t.rs m.ho v2 R2.out.own.rgs (Nat.le_trans HM2.out (by decide))).mono ?_; rintro e v3 ⟨A3, cc, rfl, ho3, hb⟩
   have HO3 := Lib.hid (Own.base ho3 R2.out.lt)
   have HR4 := Lib.hid (R2.out.rows (.inr hb) HO3.out)
   have HTD3 := Lib.hid (HTD.out.below hb HTD.out.lt)
   have c0 : v3.cell? ⟨nb, 0, none⟩ = some (.slice A t.rs.length c) := (R2.out.below hb).box.cell 0
   have f0 := (R2.out.below hb).box.free 0
   clear m9 m2 hb ho3
   go_upto_region 19 with (fail)
   have HTD4 := Lib.hid (HTD3.out.far (p := ⟨nb, 0, none⟩) (by have := HPT.out; show pt ≠ nb; omega) (.slice A3 (t.rs.filter (fun r => !eqS r.h m.ho)).length cc))
   clear c0 f0
   generalize v3.setCell ⟨nb, 0, none⟩ (.slice A3 (t.rs.filter (fun r => !eqS r.h m.ho)).length cc) = v4 at *
   have c3 : v4.cell? ⟨nb, 3, none⟩ = some (.int .u32 t.ge) := HR4.out.box.cell 3
   have f3 := HR4.out.box.free 3
   have hinc : IntKind.u32.wrap (t.ge + 1) = incG t.ge := rfl
   go_upto_region 20 with (fail)
   have R5 := Lib.hid (HR4.out.put 3 (.int .u32 (incG t.ge)) (t' := woT t m) rfl rfl)
   have HTD5 := Lib.hid (HTD4.out.far (p := ⟨nb, 3, none⟩) (by have := HPT.out; show pt ≠ nb; omega) (.int .u32 (incG t.ge)))
   clear c3 f3 hinc HTD
   have HTD := Lib.hid HTD5.out
   generalize v4.setCell ⟨nb, 3, none⟩ (.int .u32 (incG t.ge)) = v5 at *
   have c0 : v5.cell? ⟨nb, 0, none⟩ = some (.slice A3 (woT t m).rs.length cc) := R5.out.box.cell 0
   have c1 : v5.cell? ⟨nb, 1, none⟩ = some (.int .i64 t.ty) := R5.out.box.cell 1
   have c2 : v5.cell? ⟨nb, 2, none⟩ = some (.string t.ho) := R5.out.box.cell 2
   have m2 : v5.cell? ⟨nb + 1, 2, none⟩ = some (.string m.ho) := R5.out.cmd.cell 2
   go_wp2_with (fail)
   refine (events_any A3 cc (woT t m).rs ⟨#[]⟩ 3 v5 R5.out.own.rgs (show (woT t m).rs.length ≤ 1000 from Nat.le_trans (List.length_filter_le _ t.rs) (Nat.le_trans HM2.out (by decide)))).mono ?_; rintro e v6 ⟨B, kk, rfl, he, hb⟩
   have R6 := Lib.hid (R5.out.below hb); have HTD6 := Lib.hid (HTD.out.below hb HTD.out.lt); have HE6 := Lib.hid (OwnE.base he R5.out.lt)
   clear c0 c1 c2 m2 he hb
   have d5 : v6.cell? ⟨pt, 5, none⟩ = some (.slice none 0 0) := HTD6.out.cell 5
   have g5 := HTD6.out.free 5
   go_upto_region 23 with (fail)
   have hop : Only (fun k => k = pt) v6 (v6.setCell ⟨pt, 5, none⟩ (.slice B (evsOf 3 ⟨#[]⟩ (woT t m).rs).length kk)) := (Only.refl (fun k => k = pt) v6).setCell (.inl rfl) _
   have R7 := Lib.hid (R6.out.far HTD6.out HPT.out hop)
   have HTD7 : Hid (Blk (v6.setCell ⟨pt, 5, none⟩ (.slice B (evsOf 3 ⟨#[]⟩ (woT t m).rs).length kk)) pt 43 (tdC none 0 zT B kk (evsOf 3 ⟨#[]⟩ (woT t m).rs) 1)) := Lib.hid (HTD6.out.put 5 _)
   have HE7 : Hid (OwnE (v6.setCell ⟨pt, 5, none⟩ (.slice B (evsOf 3 ⟨#[]⟩ (woT t m).rs).length kk)) n0 B kk (evsOf 3 ⟨#[]⟩ (woT t m).rs)) := Lib.hid (evs_far HE6.out HTD6.out hop)
   clear d5 g5 hop HTD
   have HTD := Lib.hid HTD7.out
   generalize v6.setCell ⟨pt, 5, none⟩ (.slice B (evsOf 3 ⟨#[]⟩ (woT t m).rs).length kk) = v7 at *
   have c1 : v7.cell? ⟨nb, 1, none⟩ = some (.int .i64 t.ty) := R7.out.box.cell 1
   have c2 : v7.cell? ⟨nb, 2, none⟩ = some (.string t.ho) := R7.out.box.cell 2
   have f1 := R7.out.box.free 1
   have f2 := R7.out.box.free 2
   go_upto_region 24 with (fail)
   have R8 := Lib.hid ((R7.out.put 1 (.int .i64 0) (t' := { (woT t m) with ty := 0 }) rfl rfl).put 2 (.string ⟨#[]⟩) (t' := endT (woT t m)) rfl rfl)
   have HTD8 := Lib.hid (HTD.out.far (p := ⟨nb, 1, none⟩) (by have := HPT.out; show pt ≠ nb; omega) (.int .i64 0))
   have HTD9 := Lib.hid (HTD8.out.far (p := ⟨nb, 2, none⟩) (by have := HPT.out; show pt ≠ nb; omega) (.string ⟨#[]⟩))
   have HE8 := Lib.hid (RdAt.evs R7.out HE7.out (i := 1) (j := 2) (x := .int .i64 0) (y := .string ⟨#[]⟩))
   clear c1 c2 f1 f2 HTD
   have HTD := Lib.hid HTD9.out
   generalize (v7.setCell ⟨nb, 1, none⟩ (.int .i64 0)).setCell ⟨nb, 2, none⟩ (.string ⟨#[]⟩) = v8 at *
   have m13 : v8.cell? ⟨nb + 1, 13, none⟩ = some (.int .i64 m.ap) := R8.out.cmd.cell 13
   rcases ap3 m with ⟨h1, h2⟩ | ⟨h1, h2⟩ | ⟨h1, h2⟩
   all_goals
    first
    | have hx : (m.ap == 2) = true := h2
      clear hx
      have c4 : v8.cell? ⟨nb, 4, none⟩ = some (.bool (endT (woT t m)).ap) := R8.out.box.cell 4
      have f4 : v8.frozen? ⟨nb, 4, none⟩ = false := R8.out.box.free 4
      go_upto_region 26 with (fail)
      have RA := Lib.hid (RdAt.as (R8.out.put 4 (.bool true) (t' := { ((endT (woT t m))) with ap := true }) rfl rfl) ((sa2 h1 h2).symm.trans HT.out))
      have HTA := Lib.hid (HTD.out.far (p := ⟨nb, 4, none⟩) (by have := HPT.out; show pt ≠ nb; omega) (.bool true))
      have HEA := Lib.hid (evs_put HE8.out R8.out.box (i := 4) (x := .bool true))
      clear c4 f4 m13
      generalize v8.setCell ⟨nb, 4, none⟩ (.bool true) = va at *
    | have hx : (m.ap == 1) = true := h1
      clear hx
      have c4 : v8.cell? ⟨nb, 4, none⟩ = some (.bool (endT (woT t m)).ap) := R8.out.box.cell 4
      have f4 : v8.frozen? ⟨nb, 4, none⟩ = false := R8.out.box.free 4
      go_upto_region 26 with (fail)
      have RA := Lib.hid (RdAt.as (R8.out.put 4 (.bool false) (t' := { ((endT (woT t m))) with ap := false }) rfl rfl) ((sa1 h1).symm.trans HT.out))
      have HTA := Lib.hid (HTD.out.far (p := ⟨nb, 4, none⟩) (by have := HPT.out; show pt ≠ nb; omega) (.bool false))
      have HEA := Lib.hid (evs_put HE8.out R8.out.box (i := 4) (x := .bool false))
      clear c4 f4 m13
      generalize v8.setCell ⟨nb, 4, none⟩ (.bool false) = va at *
    | go_upto_region 26 with (fail)
      have RA := Lib.hid (RdAt.as (R8.out) ((sa0 h1 h2).symm.trans HT.out))
      have HTA := Lib.hid HTD.out
      have HEA := Lib.hid HE8.out
      clear m13
      generalize hva : v8 = va at *
      clear hva
    have c0 : va.cell? ⟨nb, 0, none⟩ = some (.slice A3 T.rs.length cc) := RA.out.box.cell 0
    have c1 : va.cell? ⟨nb, 1, none⟩ = some (.int .i64 T.ty) := RA.out.box.cell 1
    have c2 : va.cell? ⟨nb, 2, none⟩ = some (.string T.ho) := RA.out.box.cell 2
    have c3 : va.cell? ⟨nb, 3, none⟩ = some (.int .u32 T.ge) := RA.out.box.cell 3
    have c4 : va.cell? ⟨nb, 4, none⟩ = some (.bool T.ap) := RA.out.box.cell 4
    have d0 : va.cell? ⟨pt, 0, none⟩ = some (.slice none 0 0) := HTA.out.cell 0
    have g0 : va.frozen? ⟨pt, 0, none⟩ = false := HTA.out.free 0
    have d1 : va.cell? ⟨pt, 1, none⟩ = some (.int .i64 0) := HTA.out.cell 1
    have g1 : va.frozen? ⟨pt, 1, none⟩ = false := HTA.out.free 1
    have d2 : va.cell? ⟨pt, 2, none⟩ = some (.string ⟨#[]⟩) := HTA.out.cell 2
    have g2 : va.frozen? ⟨pt, 2, none⟩ = false := HTA.out.free 2
    have d3 : va.cell? ⟨pt, 3, none⟩ = some (.int .u32 0) := HTA.out.cell 3
    have g3 : va.frozen? ⟨pt, 3, none⟩ = false := HTA.out.free 3
    have d4 : va.cell? ⟨pt, 4, none⟩ = some (.bool false) := HTA.out.cell 4
    have g4 : va.frozen? ⟨pt, 4, none⟩ = false := HTA.out.free 4
    go_upto_region 27 with (fail)
    obtain ⟨hTB, hTO⟩ := told_put (A := A3) (c := cc) (t := T) HTA.out _ rfl
    have RB := Lib.hid (RA.out.far HTA.out HPT.out hTO); have HTB := Lib.hid hTB; have HEB := Lib.hid (evs_far HEA.out HTA.out hTO)
    clear hTB hTO c0 c1 c2 c3 c4 d0 d1 d2 d3 d4 g0 g1 g2 g3 g4
    generalize ((((va.setCell ⟨pt, 0, none⟩ (.slice A3 T.rs.length cc)).setCell ⟨pt, 1, none⟩ (.int .i64 T.ty)).setCell ⟨pt, 2, none⟩ (.string T.ho)).setCell ⟨pt, 3, none⟩ (.int .u32 T.ge)).setCell ⟨pt, 4, none⟩ (.bool T.ap) = vb at *
    have d0 : vb.cell? ⟨pt, 0, none⟩ = some (.slice A3 T.rs.length cc) := HTB.out.cell 0
    have d1 : vb.cell? ⟨pt, 1, none⟩ = some (.int .i64 T.ty) := HTB.out.cell 1
    have d2 : vb.cell? ⟨pt, 2, none⟩ = some (.string T.ho) := HTB.out.cell 2
    have d3 : vb.cell? ⟨pt, 3, none⟩ = some (.int .u32 T.ge) := HTB.out.cell 3
    have d4 : vb.cell? ⟨pt, 4, none⟩ = some (.bool T.ap) := HTB.out.cell 4
    have d5 : vb.cell? ⟨pt, 5, none⟩ = some (.slice B (evsOf 3 ⟨#[]⟩ (woT t m).rs).length kk) := HTB.out.cell 5
    have d6 : vb.cell? ⟨pt, 6, none⟩ = some (.int .i64 1) := HTB.out.cell 6
    have r0 : vb.cell? ⟨nb + 1 + 1, 0, none⟩ = some (.slice none 0 0) := RB.out.res.cell 0
    have q0 : vb.frozen? ⟨nb + 1 + 1, 0, none⟩ = false := RB.out.res.free 0
    have r1 : vb.cell? ⟨nb + 1 + 1, 1, none⟩ = some (.int .i64 0) := RB.out.res.cell 1
    have q1 : vb.frozen? ⟨nb + 1 + 1, 1, none⟩ = false := RB.out.res.free 1
    have r2 : vb.cell? ⟨nb + 1 + 1, 2, none⟩ = some (.string ⟨#[]⟩) := RB.out.res.cell 2
    have q2 : vb.frozen? ⟨nb + 1 + 1, 2, none⟩ = false := RB.out.res.free 2
    have r3 : vb.cell? ⟨nb + 1 + 1, 3, none⟩ = some (.int .u32 0) := RB.out.res.cell 3
    have q3 : vb.frozen? ⟨nb + 1 + 1, 3, none⟩ = false := RB.out.res.free 3
    have r4 : vb.cell? ⟨nb + 1 + 1, 4, none⟩ = some (.bool false) := RB.out.res.cell 4
    have q4 : vb.frozen? ⟨nb + 1 + 1, 4, none⟩ = false := RB.out.res.free 4
    have r5 : vb.cell? ⟨nb + 1 + 1, 5, none⟩ = some (.slice none 0 0) := RB.out.res.cell 5
    have q5 : vb.frozen? ⟨nb + 1 + 1, 5, none⟩ = false := RB.out.res.free 5
    have r6 : vb.cell? ⟨nb + 1 + 1, 6, none⟩ = some (.int .i64 0) := RB.out.res.cell 6
    have q6 : vb.frozen? ⟨nb + 1 + 1, 6, none⟩ = false := RB.out.res.free 6
    go_wp2_with (fail)
    obtain ⟨hK, hO, hB⟩ := td_put RB.out HEB.out (1) _ rfl
    refine bodyPost_ret_by (results_cell_row rfl _ _ (nb + 1 + 1) 43 (tdC A3 cc T B kk (evsOf 3 ⟨#[]⟩ (woT t m).rs) (1)) (0, 0) _ rfl hK Tryd.underlying43 rfl size43) rfl ?_
    exact ⟨A3, cc, B, kk, rfl, hO.1, hO.2, hB⟩
end Go.Proofs.YtgekadfkokkapaaDoor
