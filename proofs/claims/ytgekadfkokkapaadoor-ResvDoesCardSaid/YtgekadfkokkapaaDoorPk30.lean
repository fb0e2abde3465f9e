/- The document's Do: what asks for a registration. -/
import Derived.Test.YtgekadfkokkapaaDoorPk29
namespace Go.Proofs.YtgekadfkokkapaaDoor
open Go.RowKit
set_option maxRecDepth 100000 in
set_option maxHeartbeats 4000000 in
theorem refDo_t9 (nb : Nat) (A : Option Addr) (c : Nat) (t : Tl) (m : Cm) (w : World) (hnb : nb = w.heap.size) (hl : Rgs w A t.rs) (hm : t.rs.length ≤ 200) (hs : m.ho.size ≤ 1000) (hgb : goodB t = true) (hnm : nameB m.ho = true) (hop1 : ¬ m.op < 8) (hop2 : ¬ 12 < m.op) (h8 : (m.op == 8) = false) (h9 : (m.op == 9) = true) (hty : typeB m.ty = false) :
    Calls Tryd.prog 23 #[tlV A c t, cmV m] w (RdOut nb w (t) ([]) (5)) := by
  have R0 := Lib.hid (RdS.from w A c t m hl)
  have HM2 := Lib.hid hm
  have HM := Lib.hid (show t.rs.length ≤ maxLen from Nat.le_trans hm (by decide))
  have HMs := Lib.hid (show m.ho.size ≤ maxLen from Nat.le_trans hs (by decide))
  have hnt := not_true
  have hnf := not_false
  clear hl hm hs
  go_enter Tryd.func23, Tryd.ntmps23
  go_upto_region 1 with (fail)
  change Code.wp _ _ _ _ (((w.alloc (.cells (tlC A c t) 27)).alloc (.cells (cmC m) 37)).alloc (.cells tdZ 43))
  generalize ((w.alloc (.cells (tlC A c t) 27)).alloc (.cells (cmC m) 37)).alloc (.cells tdZ 43) = v0 at *
  rw [← hnb] at R0 ⊢
  clear hnb
  have c0 : v0.cell? ⟨nb, 0, none⟩ = some (.slice A t.rs.length c) := R0.out.box.cell 0
  have c1 : v0.cell? ⟨nb, 1, none⟩ = some (.int .i64 t.ty) := R0.out.box.cell 1
  have c2 : v0.cell? ⟨nb, 2, none⟩ = some (.string t.ho) := R0.out.box.cell 2
  have c3 : v0.cell? ⟨nb, 3, none⟩ = some (.int .u32 t.ge) := R0.out.box.cell 3
  have c4 : v0.cell? ⟨nb, 4, none⟩ = some (.bool t.ap) := R0.out.box.cell 4
  go_wp2_with (fail)
  refine (copy_any A c t _ R0.out.rg (Nat.le_trans HM2.out (by decide))).mono ?_; rintro e v1 ⟨A2, k2, rfl, ho, hb⟩
  have hbox := R0.out.box.below hb R0.out.box.lt
  have e0 : v1.cell? ⟨nb, 0, none⟩ = some (.slice A t.rs.length c) := hbox.cell 0
  have f0 : v1.frozen? ⟨nb, 0, none⟩ = false := hbox.free 0
  have e1 : v1.cell? ⟨nb, 1, none⟩ = some (.int .i64 t.ty) := hbox.cell 1
  have f1 : v1.frozen? ⟨nb, 1, none⟩ = false := hbox.free 1
  have e2 : v1.cell? ⟨nb, 2, none⟩ = some (.string t.ho) := hbox.cell 2
  have f2 : v1.frozen? ⟨nb, 2, none⟩ = false := hbox.free 2
  have e3 : v1.cell? ⟨nb, 3, none⟩ = some (.int .u32 t.ge) := hbox.cell 3
  have f3 : v1.frozen? ⟨nb, 3, none⟩ = false := hbox.free 3
  have e4 : v1.cell? ⟨nb, 4, none⟩ = some (.bool t.ap) := hbox.cell 4
  have f4 : v1.frozen? ⟨nb, 4, none⟩ = false := hbox.free 4
  obtain ⟨rr, oo, zz⟩ := R0.out.copied ho hb _ rfl
  have R2 := Lib.hid rr; have O2 := Lib.hid oo; have Z2 := Lib.hid zz
  clear rr oo zz
  clear c0 c1 c2 c3 c4 hbox ho hb
  go_upto_region 2 with (fail)
  generalize (((((v1.setCell ⟨nb, 0, none⟩ (.slice A2 t.rs.length k2)).setCell ⟨nb, 1, none⟩ (.int .i64 t.ty)).setCell ⟨nb, 2, none⟩ (.string t.ho)).setCell ⟨nb, 3, none⟩ (.int .u32 t.ge)).setCell ⟨nb, 4, none⟩ (.bool t.ap)) = v2 at *
  clear e0 e1 e2 e3 e4 f0 f1 f2 f3 f4 R0
  have c0 : v2.cell? ⟨nb, 0, none⟩ = some (.slice A2 t.rs.length k2) := R2.out.box.cell 0
  have c1 : v2.cell? ⟨nb, 1, none⟩ = some (.int .i64 t.ty) := R2.out.box.cell 1
  have c2 : v2.cell? ⟨nb, 2, none⟩ = some (.string t.ho) := R2.out.box.cell 2
  have c3 : v2.cell? ⟨nb, 3, none⟩ = some (.int .u32 t.ge) := R2.out.box.cell 3
  have c4 : v2.cell? ⟨nb, 4, none⟩ = some (.bool t.ap) := R2.out.box.cell 4
  have HG := Lib.hid (fun u (hu : Rgs u A2 t.rs) => refGood_any A2 k2 t u hu HM.out)
  rw [hgb] at HG
  go_wp2_with (fail)
  refine (HG.out _ R2.out.own.rgs).mono ?_; rintro e v3 ⟨rfl, hb⟩
  have R3 := Lib.hid (R2.out.below hb); have O3 := Lib.hid (O2.out.below hb); have Z3 := Lib.hid (Nat.le_trans Z2.out hb.size)
  clear c0 c1 c2 c3 c4 hb HG R2 O2 Z2
  have m2 : v3.cell? ⟨nb + 1, 2, none⟩ = some (.string m.ho) := R3.out.cmd.cell 2
  have HNm := Lib.hid (fun u => refName_any m.ho u HMs.out)
  rw [hnm] at HNm
  go_wp2_with (fail)
  refine (HNm.out _).mono ?_; rintro e v4 ⟨rfl, rfl⟩
  clear m2
  have m0 : v3.cell? ⟨nb + 1, 0, none⟩ = some (.int .i64 m.op) := R3.out.cmd.cell 0
  have m11 : v3.cell? ⟨nb + 1, 11, none⟩ = some (.int .i64 m.ty) := R3.out.cmd.cell 11
  have HTy := Lib.hid (fun u => refType_any m.ty u)
  rw [hty] at HTy
  go_wp2_with (fail)
  refine (HTy.out _).mono ?_; rintro e v4 ⟨rfl, rfl⟩
  clear m0 m11 HTy
  have c0 : v3.cell? ⟨nb, 0, none⟩ = some (.slice A2 t.rs.length k2) := R3.out.box.cell 0
  have c1 : v3.cell? ⟨nb, 1, none⟩ = some (.int .i64 t.ty) := R3.out.box.cell 1
  have c2 : v3.cell? ⟨nb, 2, none⟩ = some (.string t.ho) := R3.out.box.cell 2
  have c3 : v3.cell? ⟨nb, 3, none⟩ = some (.int .u32 t.ge) := R3.out.box.cell 3
  have c4 : v3.cell? ⟨nb, 4, none⟩ = some (.bool t.ap) := R3.out.box.cell 4
  have r0 : v3.cell? ⟨nb + 1 + 1, 0, none⟩ = some (.slice none 0 0) := R3.out.res.cell 0
  have q0 : v3.frozen? ⟨nb + 1 + 1, 0, none⟩ = false := R3.out.res.free 0
  have r1 : v3.cell? ⟨nb + 1 + 1, 1, none⟩ = some (.int .i64 0) := R3.out.res.cell 1
  have q1 : v3.frozen? ⟨nb + 1 + 1, 1, none⟩ = false := R3.out.res.free 1
  have r2 : v3.cell? ⟨nb + 1 + 1, 2, none⟩ = some (.string ⟨#[]⟩) := R3.out.res.cell 2
  have q2 : v3.frozen? ⟨nb + 1 + 1, 2, none⟩ = false := R3.out.res.free 2
  have r3 : v3.cell? ⟨nb + 1 + 1, 3, none⟩ = some (.int .u32 0) := R3.out.res.cell 3
  have q3 : v3.frozen? ⟨nb + 1 + 1, 3, none⟩ = false := R3.out.res.free 3
  have r4 : v3.cell? ⟨nb + 1 + 1, 4, none⟩ = some (.bool false) := R3.out.res.cell 4
  have q4 : v3.frozen? ⟨nb + 1 + 1, 4, none⟩ = false := R3.out.res.free 4
  have r5 : v3.cell? ⟨nb + 1 + 1, 5, none⟩ = some (.slice none 0 0) := R3.out.res.cell 5
  have q5 : v3.frozen? ⟨nb + 1 + 1, 5, none⟩ = false := R3.out.res.free 5
  have r6 : v3.cell? ⟨nb + 1 + 1, 6, none⟩ = some (.int .i64 0) := R3.out.res.cell 6
  have q6 : v3.frozen? ⟨nb + 1 + 1, 6, none⟩ = false := R3.out.res.free 6
  go_wp2_with (fail)
  obtain ⟨hK, hO, hB⟩ := td_put R3.out (OwnE.nil v3 nb) (5) _ rfl
  refine bodyPost_ret_by (results_cell_row rfl _ _ (nb + 1 + 1) 43 (tdC A2 k2 (t) none 0 ([]) (5)) (0, 0) _ rfl hK Tryd.underlying43 rfl size43) rfl ?_
  exact ⟨A2, k2, none, 0, rfl, hO.1, hO.2, hB⟩
set_option maxRecDepth 100000 in
set_option maxHeartbeats 4000000 in
theorem refDo_t12 (nb : Nat) (A : Option Addr) (c : Nat) (t : Tl) (m : Cm) (w : World) (hnb : nb = w.heap.size) (hl : Rgs w A t.rs) (hm : t.rs.length ≤ 200) (hs : m.ho.size ≤ 1000) (hgb : goodB t = true) (hnm : nameB m.ho = true) (hop1 : ¬ m.op < 8) (hop2 : ¬ 12 < m.op) (h8 : (m.op == 8) = false) (h9 : (m.op == 9) = false) (h12 : (m.op == 12) = true) (hty : typeB m.ty = false) :
    Calls Tryd.prog 23 #[tlV A c t, cmV m] w (RdOut nb w (t) ([]) (5)) := by
  have R0 := Lib.hid (RdS.from w A c t m hl)
  have HM2 := Lib.hid hm
  have HM := Lib.hid (show t.rs.length ≤ maxLen from Nat.le_trans hm (by decide))
  have HMs := Lib.hid (show m.ho.size ≤ maxLen from Nat.le_trans hs (by decide))
  have hnt := not_true
  have hnf := not_false
  clear hl hm hs
  go_enter Tryd.func23, Tryd.ntmps23
  go_upto_region 1 with (fail)
  change Code.wp _ _ _ _ (((w.alloc (.cells (tlC A c t) 27)).alloc (.cells (cmC m) 37)).alloc (.cells tdZ 43))
  generalize ((w.alloc (.cells (tlC A c t) 27)).alloc (.cells (cmC m) 37)).alloc (.cells tdZ 43) = v0 at *
  rw [← hnb] at R0 ⊢
  clear hnb
  have c0 : v0.cell? ⟨nb, 0, none⟩ = some (.slice A t.rs.length c) := R0.out.box.cell 0
  have c1 : v0.cell? ⟨nb, 1, none⟩ = some (.int .i64 t.ty) := R0.out.box.cell 1
  have c2 : v0.cell? ⟨nb, 2, none⟩ = some (.string t.ho) := R0.out.box.cell 2
  have c3 : v0.cell? ⟨nb, 3, none⟩ = some (.int .u32 t.ge) := R0.out.box.cell 3
  have c4 : v0.cell? ⟨nb, 4, none⟩ = some (.bool t.ap) := R0.out.box.cell 4
  go_wp2_with (fail)
  refine (copy_any A c t _ R0.out.rg (Nat.le_trans HM2.out (by decide))).mono ?_; rintro e v1 ⟨A2, k2, rfl, ho, hb⟩
  have hbox := R0.out.box.below hb R0.out.box.lt
  have e0 : v1.cell? ⟨nb, 0, none⟩ = some (.slice A t.rs.length c) := hbox.cell 0
  have f0 : v1.frozen? ⟨nb, 0, none⟩ = false := hbox.free 0
  have e1 : v1.cell? ⟨nb, 1, none⟩ = some (.int .i64 t.ty) := hbox.cell 1
  have f1 : v1.frozen? ⟨nb, 1, none⟩ = false := hbox.free 1
  have e2 : v1.cell? ⟨nb, 2, none⟩ = some (.string t.ho) := hbox.cell 2
  have f2 : v1.frozen? ⟨nb, 2, none⟩ = false := hbox.free 2
  have e3 : v1.cell? ⟨nb, 3, none⟩ = some (.int .u32 t.ge) := hbox.cell 3
  have f3 : v1.frozen? ⟨nb, 3, none⟩ = false := hbox.free 3
  have e4 : v1.cell? ⟨nb, 4, none⟩ = some (.bool t.ap) := hbox.cell 4
  have f4 : v1.frozen? ⟨nb, 4, none⟩ = false := hbox.free 4
  obtain ⟨rr, oo, zz⟩ := R0.out.copied ho hb _ rfl
  have R2 := Lib.hid rr; have O2 := Lib.hid oo; have Z2 := Lib.hid zz
  clear rr oo zz
  clear c0 c1 c2 c3 c4 hbox ho hb
  go_upto_region 2 with (fail)
  generalize (((((v1.setCell ⟨nb, 0, none⟩ (.slice A2 t.rs.length k2)).setCell ⟨nb, 1, none⟩ (.int .i64 t.ty)).setCell ⟨nb, 2, none⟩ (.string t.ho)).setCell ⟨nb, 3, none⟩ (.int .u32 t.ge)).setCell ⟨nb, 4, none⟩ (.bool t.ap)) = v2 at *
  clear e0 e1 e2 e3 e4 f0 f1 f2 f3 f4 R0
  have c0 : v2.cell? ⟨nb, 0, none⟩ = some (.slice A2 t.rs.length k2) := R2.out.box.cell 0
  have c1 : v2.cell? ⟨nb, 1, none⟩ = some (.int .i64 t.ty) := R2.out.box.cell 1
  have c2 : v2.cell? ⟨nb, 2, none⟩ = some (.string t.ho) := R2.out.box.cell 2
  have c3 : v2.cell? ⟨nb, 3, none⟩ = some (.int .u32 t.ge) := R2.out.box.cell 3
  have c4 : v2.cell? ⟨nb, 4, none⟩ = some (.bool t.ap) := R2.out.box.cell 4
  have HG := Lib.hid (fun u (hu : Rgs u A2 t.rs) => refGood_any A2 k2 t u hu HM.out)
  rw [hgb] at HG
  go_wp2_with (fail)
  refine (HG.out _ R2.out.own.rgs).mono ?_; rintro e v3 ⟨rfl, hb⟩
  have R3 := Lib.hid (R2.out.below hb); have O3 := Lib.hid (O2.out.below hb); have Z3 := Lib.hid (Nat.le_trans Z2.out hb.size)
  clear c0 c1 c2 c3 c4 hb HG R2 O2 Z2
  have m2 : v3.cell? ⟨nb + 1, 2, none⟩ = some (.string m.ho) := R3.out.cmd.cell 2
  have HNm := Lib.hid (fun u => refName_any m.ho u HMs.out)
  rw [hnm] at HNm
  go_wp2_with (fail)
  refine (HNm.out _).mono ?_; rintro e v4 ⟨rfl, rfl⟩
  clear m2
  have m0 : v3.cell? ⟨nb + 1, 0, none⟩ = some (.int .i64 m.op) := R3.out.cmd.cell 0
  have m11 : v3.cell? ⟨nb + 1, 11, none⟩ = some (.int .i64 m.ty) := R3.out.cmd.cell 11
  have HTy := Lib.hid (fun u => refType_any m.ty u)
  rw [hty] at HTy
  go_wp2_with (fail)
  refine (HTy.out _).mono ?_; rintro e v4 ⟨rfl, rfl⟩
  clear m0 m11 HTy
  have c0 : v3.cell? ⟨nb, 0, none⟩ = some (.slice A2 t.rs.length k2) := R3.out.box.cell 0
  have c1 : v3.cell? ⟨nb, 1, none⟩ = some (.int .i64 t.ty) := R3.out.box.cell 1
  have c2 : v3.cell? ⟨nb, 2, none⟩ = some (.string t.ho) := R3.out.box.cell 2
  have c3 : v3.cell? ⟨nb, 3, none⟩ = some (.int .u32 t.ge) := R3.out.box.cell 3
  have c4 : v3.cell? ⟨nb, 4, none⟩ = some (.bool t.ap) := R3.out.box.cell 4
  have r0 : v3.cell? ⟨nb + 1 + 1, 0, none⟩ = some (.slice none 0 0) := R3.out.res.cell 0
  have q0 : v3.frozen? ⟨nb + 1 + 1, 0, none⟩ = false := R3.out.res.free 0
  have r1 : v3.cell? ⟨nb + 1 + 1, 1, none⟩ = some (.int .i64 0) := R3.out.res.cell 1
  have q1 : v3.frozen? ⟨nb + 1 + 1, 1, none⟩ = false := R3.out.res.free 1
  have r2 : v3.cell? ⟨nb + 1 + 1, 2, none⟩ = some (.string ⟨#[]⟩) := R3.out.res.cell 2
  have q2 : v3.frozen? ⟨nb + 1 + 1, 2, none⟩ = false := R3.out.res.free 2
  have r3 : v3.cell? ⟨nb + 1 + 1, 3, none⟩ = some (.int .u32 0) := R3.out.res.cell 3
  have q3 : v3.frozen? ⟨nb + 1 + 1, 3, none⟩ = false := R3.out.res.free 3
  have r4 : v3.cell? ⟨nb + 1 + 1, 4, none⟩ = some (.bool false) := R3.out.res.cell 4
  have q4 : v3.frozen? ⟨nb + 1 + 1, 4, none⟩ = false := R3.out.res.free 4
  have r5 : v3.cell? ⟨nb + 1 + 1, 5, none⟩ = some (.slice none 0 0) := R3.out.res.cell 5
  have q5 : v3.frozen? ⟨nb + 1 + 1, 5, none⟩ = false := R3.out.res.free 5
  have r6 : v3.cell? ⟨nb + 1 + 1, 6, none⟩ = some (.int .i64 0) := R3.out.res.cell 6
  have q6 : v3.frozen? ⟨nb + 1 + 1, 6, none⟩ = false := R3.out.res.free 6
  go_wp2_with (fail)
  obtain ⟨hK, hO, hB⟩ := td_put R3.out (OwnE.nil v3 nb) (5) _ rfl
  refine bodyPost_ret_by (results_cell_row rfl _ _ (nb + 1 + 1) 43 (tdC A2 k2 (t) none 0 ([]) (5)) (0, 0) _ rfl hK Tryd.underlying43 rfl size43) rfl ?_
  exact ⟨A2, k2, none, 0, rfl, hO.1, hO.2, hB⟩
set_option maxRecDepth 100000 in
set_option maxHeartbeats 4000000 in
theorem refDo_c9a (nb : Nat) (A : Option Addr) (c : Nat) (t : Tl) (m : Cm) (w : World) (hnb : nb = w.heap.size) (hl : Rgs w A t.rs) (hm : t.rs.length ≤ 200) (hs : m.ho.size ≤ 1000) (hgb : goodB t = true) (hnm : nameB m.ho = true) (hop1 : ¬ m.op < 8) (hop2 : ¬ 12 < m.op) (h8 : (m.op == 8) = false) (h9 : (m.op == 9) = true) (hty : typeB m.ty = true) (k1 : (keyR t.rs m.ho == 0) = true) :
    Calls Tryd.prog 23 #[tlV A c t, cmV m] w (RdOut nb w (t) ([]) (2)) := by
  have R0 := Lib.hid (RdS.from w A c t m hl)
  have HM2 := Lib.hid hm
  have HM := Lib.hid (show t.rs.length ≤ maxLen from Nat.le_trans hm (by decide))
  have HMs := Lib.hid (show m.ho.size ≤ maxLen from Nat.le_trans hs (by decide))
  have hnt := not_true
  have hnf := not_false
  clear hl hm hs
  go_enter Tryd.func23, Tryd.ntmps23
  go_upto_region 1 with (fail)
  change Code.wp _ _ _ _ (((w.alloc (.cells (tlC A c t) 27)).alloc (.cells (cmC m) 37)).alloc (.cells tdZ 43))
  generalize ((w.alloc (.cells (tlC A c t) 27)).alloc (.cells (cmC m) 37)).alloc (.cells tdZ 43) = v0 at *
  rw [← hnb] at R0 ⊢
  clear hnb
  have c0 : v0.cell? ⟨nb, 0, none⟩ = some (.slice A t.rs.length c) := R0.out.box.cell 0
  have c1 : v0.cell? ⟨nb, 1, none⟩ = some (.int .i64 t.ty) := R0.out.box.cell 1
  have c2 : v0.cell? ⟨nb, 2, none⟩ = some (.string t.ho) := R0.out.box.cell 2
  have c3 : v0.cell? ⟨nb, 3, none⟩ = some (.int .u32 t.ge) := R0.out.box.cell 3
  have c4 : v0.cell? ⟨nb, 4, none⟩ = some (.bool t.ap) := R0.out.box.cell 4
  go_wp2_with (fail)
  refine (copy_any A c t _ R0.out.rg (Nat.le_trans HM2.out (by decide))).mono ?_; rintro e v1 ⟨A2, k2, rfl, ho, hb⟩
  have hbox := R0.out.box.below hb R0.out.box.lt
  have e0 : v1.cell? ⟨nb, 0, none⟩ = some (.slice A t.rs.length c) := hbox.cell 0
  have f0 : v1.frozen? ⟨nb, 0, none⟩ = false := hbox.free 0
  have e1 : v1.cell? ⟨nb, 1, none⟩ = some (.int .i64 t.ty) := hbox.cell 1
  have f1 : v1.frozen? ⟨nb, 1, none⟩ = false := hbox.free 1
  have e2 : v1.cell? ⟨nb, 2, none⟩ = some (.string t.ho) := hbox.cell 2
  have f2 : v1.frozen? ⟨nb, 2, none⟩ = false := hbox.free 2
  have e3 : v1.cell? ⟨nb, 3, none⟩ = some (.int .u32 t.ge) := hbox.cell 3
  have f3 : v1.frozen? ⟨nb, 3, none⟩ = false := hbox.free 3
  have e4 : v1.cell? ⟨nb, 4, none⟩ = some (.bool t.ap) := hbox.cell 4
  have f4 : v1.frozen? ⟨nb, 4, none⟩ = false := hbox.free 4
  obtain ⟨rr, oo, zz⟩ := R0.out.copied ho hb _ rfl
  have R2 := Lib.hid rr; have O2 := Lib.hid oo; have Z2 := Lib.hid zz
  clear rr oo zz
  clear c0 c1 c2 c3 c4 hbox ho hb
  go_upto_region 2 with (fail)
  generalize (((((v1.setCell ⟨nb, 0, none⟩ (.slice A2 t.rs.length k2)).setCell ⟨nb, 1, none⟩ (.int .i64 t.ty)).setCell ⟨nb, 2, none⟩ (.string t.ho)).setCell ⟨nb, 3, none⟩ (.int .u32 t.ge)).setCell ⟨nb, 4, none⟩ (.bool t.ap)) = v2 at *
  clear e0 e1 e2 e3 e4 f0 f1 f2 f3 f4 R0
  have c0 : v2.cell? ⟨nb, 0, none⟩ = some (.slice A2 t.rs.length k2) := R2.out.box.cell 0
  have c1 : v2.cell? ⟨nb, 1, none⟩ = some (.int .i64 t.ty) := R2.out.box.cell 1
  have c2 : v2.cell? ⟨nb, 2, none⟩ = some (.string t.ho) := R2.out.box.cell 2
  have c3 : v2.cell? ⟨nb, 3, none⟩ = some (.int .u32 t.ge) := R2.out.box.cell 3
  have c4 : v2.cell? ⟨nb, 4, none⟩ = some (.bool t.ap) := R2.out.box.cell 4
  have HG := Lib.hid (fun u (hu : Rgs u A2 t.rs) => refGood_any A2 k2 t u hu HM.out)
  rw [hgb] at HG
  go_wp2_with (fail)
  refine (HG.out _ R2.out.own.rgs).mono ?_; rintro e v3 ⟨rfl, hb⟩
  have R3 := Lib.hid (R2.out.below hb); have O3 := Lib.hid (O2.out.below hb); have Z3 := Lib.hid (Nat.le_trans Z2.out hb.size)
  clear c0 c1 c2 c3 c4 hb HG R2 O2 Z2
  have m2 : v3.cell? ⟨nb + 1, 2, none⟩ = some (.string m.ho) := R3.out.cmd.cell 2
  have HNm := Lib.hid (fun u => refName_any m.ho u HMs.out)
  rw [hnm] at HNm
  go_wp2_with (fail)
  refine (HNm.out _).mono ?_; rintro e v4 ⟨rfl, rfl⟩
  clear m2
  have m0 : v3.cell? ⟨nb + 1, 0, none⟩ = some (.int .i64 m.op) := R3.out.cmd.cell 0
  have m11 : v3.cell? ⟨nb + 1, 11, none⟩ = some (.int .i64 m.ty) := R3.out.cmd.cell 11
  have HTy := Lib.hid (fun u => refType_any m.ty u)
  rw [hty] at HTy
  go_wp2_with (fail)
  refine (HTy.out _).mono ?_; rintro e v4 ⟨rfl, rfl⟩
  clear m11 HTy
  have c0 : v3.cell? ⟨nb, 0, none⟩ = some (.slice A2 t.rs.length k2) := R3.out.box.cell 0
  have c1 : v3.cell? ⟨nb, 1, none⟩ = some (.int .i64 t.ty) := R3.out.box.cell 1
  have c2 : v3.cell? ⟨nb, 2, none⟩ = some (.string t.ho) := R3.out.box.cell 2
  have c3 : v3.cell? ⟨nb, 3, none⟩ = some (.int .u32 t.ge) := R3.out.box.cell 3
  have c4 : v3.cell? ⟨nb, 4, none⟩ = some (.bool t.ap) := R3.out.box.cell 4
  have m2 : v3.cell? ⟨nb + 1, 2, none⟩ = some (.string m.ho) := R3.out.cmd.cell 2
  have HKy := Lib.hid (fun u (hu : Rgs u A2 t.rs) => refKey_any A2 k2 t m.ho u hu HM.out)
  go_wp2_with (fail)
  refine (HKy.out _ R3.out.own.rgs).mono ?_; rintro e v4 ⟨rfl, hb⟩
  have R4 := Lib.hid (R3.out.below hb); have O4 := Lib.hid (O3.out.below hb); have Z4 := Lib.hid (Nat.le_trans Z3.out hb.size)
  clear c0 c1 c2 c3 c4 m2 hb HKy R3 O3 Z3
  clear m0
  have c0 : v4.cell? ⟨nb, 0, none⟩ = some (.slice A2 t.rs.length k2) := R4.out.box.cell 0
  have c1 : v4.cell? ⟨nb, 1, none⟩ = some (.int .i64 t.ty) := R4.out.box.cell 1
  have c2 : v4.cell? ⟨nb, 2, none⟩ = some (.string t.ho) := R4.out.box.cell 2
  have c3 : v4.cell? ⟨nb, 3, none⟩ = some (.int .u32 t.ge) := R4.out.box.cell 3
  have c4 : v4.cell? ⟨nb, 4, none⟩ = some (.bool t.ap) := R4.out.box.cell 4
  have r0 : v4.cell? ⟨nb + 1 + 1, 0, none⟩ = some (.slice none 0 0) := R4.out.res.cell 0
  have q0 : v4.frozen? ⟨nb + 1 + 1, 0, none⟩ = false := R4.out.res.free 0
  have r1 : v4.cell? ⟨nb + 1 + 1, 1, none⟩ = some (.int .i64 0) := R4.out.res.cell 1
  have q1 : v4.frozen? ⟨nb + 1 + 1, 1, none⟩ = false := R4.out.res.free 1
  have r2 : v4.cell? ⟨nb + 1 + 1, 2, none⟩ = some (.string ⟨#[]⟩) := R4.out.res.cell 2
  have q2 : v4.frozen? ⟨nb + 1 + 1, 2, none⟩ = false := R4.out.res.free 2
  have r3 : v4.cell? ⟨nb + 1 + 1, 3, none⟩ = some (.int .u32 0) := R4.out.res.cell 3
  have q3 : v4.frozen? ⟨nb + 1 + 1, 3, none⟩ = false := R4.out.res.free 3
  have r4 : v4.cell? ⟨nb + 1 + 1, 4, none⟩ = some (.bool false) := R4.out.res.cell 4
  have q4 : v4.frozen? ⟨nb + 1 + 1, 4, none⟩ = false := R4.out.res.free 4
  have r5 : v4.cell? ⟨nb + 1 + 1, 5, none⟩ = some (.slice none 0 0) := R4.out.res.cell 5
  have q5 : v4.frozen? ⟨nb + 1 + 1, 5, none⟩ = false := R4.out.res.free 5
  have r6 : v4.cell? ⟨nb + 1 + 1, 6, none⟩ = some (.int .i64 0) := R4.out.res.cell 6
  have q6 : v4.frozen? ⟨nb + 1 + 1, 6, none⟩ = false := R4.out.res.free 6
  go_wp2_with (fail)
  obtain ⟨hK, hO, hB⟩ := td_put R4.out (OwnE.nil v4 nb) (2) _ rfl
  refine bodyPost_ret_by (results_cell_row rfl _ _ (nb + 1 + 1) 43 (tdC A2 k2 (t) none 0 ([]) (2)) (0, 0) _ rfl hK Tryd.underlying43 rfl size43) rfl ?_
  exact ⟨A2, k2, none, 0, rfl, hO.1, hO.2, hB⟩
set_option maxRecDepth 100000 in
set_option maxHeartbeats 4000000 in
theorem refDo_c9b (nb : Nat) (A : Option Addr) (c : Nat) (t : Tl) (m : Cm) (w : World) (hnb : nb = w.heap.size) (hl : Rgs w A t.rs) (hm : t.rs.length ≤ 200) (hs : m.ho.size ≤ 1000) (hgb : goodB t = true) (hnm : nameB m.ho = true) (hop1 : ¬ m.op < 8) (hop2 : ¬ 12 < m.op) (h8 : (m.op == 8) = false) (h9 : (m.op == 9) = true) (hty : typeB m.ty = true) (k1 : (keyR t.rs m.ho == 0) = false) (q2 : (keyR t.rs m.ho != m.ke) = true) :
    Calls Tryd.prog 23 #[tlV A c t, cmV m] w (RdOut nb w (t) ([]) (2)) := by
  have R0 := Lib.hid (RdS.from w A c t m hl)
  have HM2 := Lib.hid hm
  have HM := Lib.hid (show t.rs.length ≤ maxLen from Nat.le_trans hm (by decide))
  have HMs := Lib.hid (show m.ho.size ≤ maxLen from Nat.le_trans hs (by decide))
  have hnt := not_true
  have hnf := not_false
  clear hl hm hs
  go_enter Tryd.func23, Tryd.ntmps23
  go_upto_region 1 with (fail)
  change Code.wp _ _ _ _ (((w.alloc (.cells (tlC A c t) 27)).alloc (.cells (cmC m) 37)).alloc (.cells tdZ 43))
  generalize ((w.alloc (.cells (tlC A c t) 27)).alloc (.cells (cmC m) 37)).alloc (.cells tdZ 43) = v0 at *
  rw [← hnb] at R0 ⊢
  clear hnb
  have c0 : v0.cell? ⟨nb, 0, none⟩ = some (.slice A t.rs.length c) := R0.out.box.cell 0
  have c1 : v0.cell? ⟨nb, 1, none⟩ = some (.int .i64 t.ty) := R0.out.box.cell 1
  have c2 : v0.cell? ⟨nb, 2, none⟩ = some (.string t.ho) := R0.out.box.cell 2
  have c3 : v0.cell? ⟨nb, 3, none⟩ = some (.int .u32 t.ge) := R0.out.box.cell 3
  have c4 : v0.cell? ⟨nb, 4, none⟩ = some (.bool t.ap) := R0.out.box.cell 4
  go_wp2_with (fail)
  refine (copy_any A c t _ R0.out.rg (Nat.le_trans HM2.out (by decide))).mono ?_; rintro e v1 ⟨A2, k2, rfl, ho, hb⟩
  have hbox := R0.out.box.below hb R0.out.box.lt
  have e0 : v1.cell? ⟨nb, 0, none⟩ = some (.slice A t.rs.length c) := hbox.cell 0
  have f0 : v1.frozen? ⟨nb, 0, none⟩ = false := hbox.free 0
  have e1 : v1.cell? ⟨nb, 1, none⟩ = some (.int .i64 t.ty) := hbox.cell 1
  have f1 : v1.frozen? ⟨nb, 1, none⟩ = false := hbox.free 1
  have e2 : v1.cell? ⟨nb, 2, none⟩ = some (.string t.ho) := hbox.cell 2
  have f2 : v1.frozen? ⟨nb, 2, none⟩ = false := hbox.free 2
  have e3 : v1.cell? ⟨nb, 3, none⟩ = some (.int .u32 t.ge) := hbox.cell 3
  have f3 : v1.frozen? ⟨nb, 3, none⟩ = false := hbox.free 3
  have e4 : v1.cell? ⟨nb, 4, none⟩ = some (.bool t.ap) := hbox.cell 4
  have f4 : v1.frozen? ⟨nb, 4, none⟩ = false := hbox.free 4
  obtain ⟨rr, oo, zz⟩ := R0.out.copied ho hb _ rfl
  have R2 := Lib.hid rr; have O2 := Lib.hid oo; have Z2 := Lib.hid zz
  clear rr oo zz
  clear c0 c1 c2 c3 c4 hbox ho hb
  go_upto_region 2 with (fail)
  generalize (((((v1.setCell ⟨nb, 0, none⟩ (.slice A2 t.rs.length k2)).setCell ⟨nb, 1, none⟩ (.int .i64 t.ty)).setCell ⟨nb, 2, none⟩ (.string t.ho)).setCell ⟨nb, 3, none⟩ (.int .u32 t.ge)).setCell ⟨nb, 4, none⟩ (.bool t.ap)) = v2 at *
  clear e0 e1 e2 e3 e4 f0 f1 f2 f3 f4 R0
  have c0 : v2.cell? ⟨nb, 0, none⟩ = some (.slice A2 t.rs.length k2) := R2.out.box.cell 0
  have c1 : v2.cell? ⟨nb, 1, none⟩ = some (.int .i64 t.ty) := R2.out.box.cell 1
  have c2 : v2.cell? ⟨nb, 2, none⟩ = some (.string t.ho) := R2.out.box.cell 2
  have c3 : v2.cell? ⟨nb, 3, none⟩ = some (.int .u32 t.ge) := R2.out.box.cell 3
  have c4 : v2.cell? ⟨nb, 4, none⟩ = some (.bool t.ap) := R2.out.box.cell 4
  have HG := Lib.hid (fun u (hu : Rgs u A2 t.rs) => refGood_any A2 k2 t u hu HM.out)
  rw [hgb] at HG
  go_wp2_with (fail)
  refine (HG.out _ R2.out.own.rgs).mono ?_; rintro e v3 ⟨rfl, hb⟩
  have R3 := Lib.hid (R2.out.below hb); have O3 := Lib.hid (O2.out.below hb); have Z3 := Lib.hid (Nat.le_trans Z2.out hb.size)
  clear c0 c1 c2 c3 c4 hb HG R2 O2 Z2
  have m2 : v3.cell? ⟨nb + 1, 2, none⟩ = some (.string m.ho) := R3.out.cmd.cell 2
  have HNm := Lib.hid (fun u => refName_any m.ho u HMs.out)
  rw [hnm] at HNm
  go_wp2_with (fail)
  refine (HNm.out _).mono ?_; rintro e v4 ⟨rfl, rfl⟩
  clear m2
  have m0 : v3.cell? ⟨nb + 1, 0, none⟩ = some (.int .i64 m.op) := R3.out.cmd.cell 0
  have m11 : v3.cell? ⟨nb + 1, 11, none⟩ = some (.int .i64 m.ty) := R3.out.cmd.cell 11
  have HTy := Lib.hid (fun u => refType_any m.ty u)
  rw [hty] at HTy
  go_wp2_with (fail)
  refine (HTy.out _).mono ?_; rintro e v4 ⟨rfl, rfl⟩
  clear m11 HTy
  have c0 : v3.cell? ⟨nb, 0, none⟩ = some (.slice A2 t.rs.length k2) := R3.out.box.cell 0
  have c1 : v3.cell? ⟨nb, 1, none⟩ = some (.int .i64 t.ty) := R3.out.box.cell 1
  have c2 : v3.cell? ⟨nb, 2, none⟩ = some (.string t.ho) := R3.out.box.cell 2
  have c3 : v3.cell? ⟨nb, 3, none⟩ = some (.int .u32 t.ge) := R3.out.box.cell 3
  have c4 : v3.cell? ⟨nb, 4, none⟩ = some (.bool t.ap) := R3.out.box.cell 4
  have m2 : v3.cell? ⟨nb + 1, 2, none⟩ = some (.string m.ho) := R3.out.cmd.cell 2
  have HKy := Lib.hid (fun u (hu : Rgs u A2 t.rs) => refKey_any A2 k2 t m.ho u hu HM.out)
  go_wp2_with (fail)
  refine (HKy.out _ R3.out.own.rgs).mono ?_; rintro e v4 ⟨rfl, hb⟩
  have R4 := Lib.hid (R3.out.below hb); have O4 := Lib.hid (O3.out.below hb); have Z4 := Lib.hid (Nat.le_trans Z3.out hb.size)
  clear c0 c1 c2 c3 c4 m2 hb HKy R3 O3 Z3
  clear m0
  have m8 : v4.cell? ⟨nb + 1, 8, none⟩ = some (.int .u64 m.ke) := R4.out.cmd.cell 8
  have c0 : v4.cell? ⟨nb, 0, none⟩ = some (.slice A2 t.rs.length k2) := R4.out.box.cell 0
  have c1 : v4.cell? ⟨nb, 1, none⟩ = some (.int .i64 t.ty) := R4.out.box.cell 1
  have c2 : v4.cell? ⟨nb, 2, none⟩ = some (.string t.ho) := R4.out.box.cell 2
  have c3 : v4.cell? ⟨nb, 3, none⟩ = some (.int .u32 t.ge) := R4.out.box.cell 3
  have c4 : v4.cell? ⟨nb, 4, none⟩ = some (.bool t.ap) := R4.out.box.cell 4
  have r0 : v4.cell? ⟨nb + 1 + 1, 0, none⟩ = some (.slice none 0 0) := R4.out.res.cell 0
  have q0 : v4.frozen? ⟨nb + 1 + 1, 0, none⟩ = false := R4.out.res.free 0
  have r1 : v4.cell? ⟨nb + 1 + 1, 1, none⟩ = some (.int .i64 0) := R4.out.res.cell 1
  have q1 : v4.frozen? ⟨nb + 1 + 1, 1, none⟩ = false := R4.out.res.free 1
  have r2 : v4.cell? ⟨nb + 1 + 1, 2, none⟩ = some (.string ⟨#[]⟩) := R4.out.res.cell 2
  have q2 : v4.frozen? ⟨nb + 1 + 1, 2, none⟩ = false := R4.out.res.free 2
  have r3 : v4.cell? ⟨nb + 1 + 1, 3, none⟩ = some (.int .u32 0) := R4.out.res.cell 3
  have q3 : v4.frozen? ⟨nb + 1 + 1, 3, none⟩ = false := R4.out.res.free 3
  have r4 : v4.cell? ⟨nb + 1 + 1, 4, none⟩ = some (.bool false) := R4.out.res.cell 4
  have q4 : v4.frozen? ⟨nb + 1 + 1, 4, none⟩ = false := R4.out.res.free 4
  have r5 : v4.cell? ⟨nb + 1 + 1, 5, none⟩ = some (.slice none 0 0) := R4.out.res.cell 5
  have q5 : v4.frozen? ⟨nb + 1 + 1, 5, none⟩ = false := R4.out.res.free 5
  have r6 : v4.cell? ⟨nb + 1 + 1, 6, none⟩ = some (.int .i64 0) := R4.out.res.cell 6
  have q6 : v4.frozen? ⟨nb + 1 + 1, 6, none⟩ = false := R4.out.res.free 6
  go_wp2_with (fail)
  obtain ⟨hK, hO, hB⟩ := td_put R4.out (OwnE.nil v4 nb) (2) _ rfl
  refine bodyPost_ret_by (results_cell_row rfl _ _ (nb + 1 + 1) 43 (tdC A2 k2 (t) none 0 ([]) (2)) (0, 0) _ rfl hK Tryd.underlying43 rfl size43) rfl ?_
  exact ⟨A2, k2, none, 0, rfl, hO.1, hO.2, hB⟩
set_option maxRecDepth 100000 in
set_option maxHeartbeats 4000000 in
theorem refDo_c12a (nb : Nat) (A : Option Addr) (c : Nat) (t : Tl) (m : Cm) (w : World) (hnb : nb = w.heap.size) (hl : Rgs w A t.rs) (hm : t.rs.length ≤ 200) (hs : m.ho.size ≤ 1000) (hgb : goodB t = true) (hnm : nameB m.ho = true) (hop1 : ¬ m.op < 8) (hop2 : ¬ 12 < m.op) (h8 : (m.op == 8) = false) (h9 : (m.op == 9) = false) (h12 : (m.op == 12) = true) (hty : typeB m.ty = true) (k1 : (keyR t.rs m.ho == 0) = true) :
    Calls Tryd.prog 23 #[tlV A c t, cmV m] w (RdOut nb w (t) ([]) (2)) := by
  have R0 := Lib.hid (RdS.from w A c t m hl)
  have HM2 := Lib.hid hm
  have HM := Lib.hid (show t.rs.length ≤ maxLen from Nat.le_trans hm (by decide))
  have HMs := Lib.hid (show m.ho.size ≤ maxLen from Nat.le_trans hs (by decide))
  have hnt := not_true
  have hnf := not_false
  clear hl hm hs
  go_enter Tryd.func23, Tryd.ntmps23
  go_upto_region 1 with (fail)
  change Code.wp _ _ _ _ (((w.alloc (.cells (tlC A c t) 27)).alloc (.cells (cmC m) 37)).alloc (.cells tdZ 43))
  generalize ((w.alloc (.cells (tlC A c t) 27)).alloc (.cells (cmC m) 37)).alloc (.cells tdZ 43) = v0 at *
  rw [← hnb] at R0 ⊢
  clear hnb
  have c0 : v0.cell? ⟨nb, 0, none⟩ = some (.slice A t.rs.length c) := R0.out.box.cell 0
  have c1 : v0.cell? ⟨nb, 1, none⟩ = some (.int .i64 t.ty) := R0.out.box.cell 1
  have c2 : v0.cell? ⟨nb, 2, none⟩ = some (.string t.ho) := R0.out.box.cell 2
  have c3 : v0.cell? ⟨nb, 3, none⟩ = some (.int .u32 t.ge) := R0.out.box.cell 3
  have c4 : v0.cell? ⟨nb, 4, none⟩ = some (.bool t.ap) := R0.out.box.cell 4
  go_wp2_with (fail)
  refine (copy_any A c t _ R0.out.rg (Nat.le_trans HM2.out (by decide))).mono ?_; rintro e v1 ⟨A2, k2, rfl, ho, hb⟩
  have hbox := R0.out.box.below hb R0.out.box.lt
  have e0 : v1.cell? ⟨nb, 0, none⟩ = some (.slice A t.rs.length c) := hbox.cell 0
  have f0 : v1.frozen? ⟨nb, 0, none⟩ = false := hbox.free 0
  have e1 : v1.cell? ⟨nb, 1, none⟩ = some (.int .i64 t.ty) := hbox.cell 1
  have f1 : v1.frozen? ⟨nb, 1, none⟩ = false := hbox.free 1
  have e2 : v1.cell? ⟨nb, 2, none⟩ = some (.string t.ho) := hbox.cell 2
  have f2 : v1.frozen? ⟨nb, 2, none⟩ = false := hbox.free 2
  have e3 : v1.cell? ⟨nb, 3, none⟩ = some (.int .u32 t.ge) := hbox.cell 3
  have f3 : v1.frozen? ⟨nb, 3, none⟩ = false := hbox.free 3
  have e4 : v1.cell? ⟨nb, 4, none⟩ = some (.bool t.ap) := hbox.cell 4
  have f4 : v1.frozen? ⟨nb, 4, none⟩ = false := hbox.free 4
  obtain ⟨rr, oo, zz⟩ := R0.out.copied ho hb _ rfl
  have R2 := Lib.hid rr; have O2 := Lib.hid oo; have Z2 := Lib.hid zz
  clear rr oo zz
  clear c0 c1 c2 c3 c4 hbox ho hb
  go_upto_region 2 with (fail)
  generalize (((((v1.setCell ⟨nb, 0, none⟩ (.slice A2 t.rs.length k2)).setCell ⟨nb, 1, none⟩ (.int .i64 t.ty)).setCell ⟨nb, 2, none⟩ (.string t.ho)).setCell ⟨nb, 3, none⟩ (.int .u32 t.ge)).setCell ⟨nb, 4, none⟩ (.bool t.ap)) = v2 at *
  clear e0 e1 e2 e3 e4 f0 f1 f2 f3 f4 R0
  have c0 : v2.cell? ⟨nb, 0, none⟩ = some (.slice A2 t.rs.length k2) := R2.out.box.cell 0
  have c1 : v2.cell? ⟨nb, 1, none⟩ = some (.int .i64 t.ty) := R2.out.box.cell 1
  have c2 : v2.cell? ⟨nb, 2, none⟩ = some (.string t.ho) := R2.out.box.cell 2
  have c3 : v2.cell? ⟨nb, 3, none⟩ = some (.int .u32 t.ge) := R2.out.box.cell 3
  have c4 : v2.cell? ⟨nb, 4, none⟩ = some (.bool t.ap) := R2.out.box.cell 4
  have HG := Lib.hid (fun u (hu : Rgs u A2 t.rs) => refGood_any A2 k2 t u hu HM.out)
  rw [hgb] at HG
  go_wp2_with (fail)
  refine (HG.out _ R2.out.own.rgs).mono ?_; rintro e v3 ⟨rfl, hb⟩
  have R3 := Lib.hid (R2.out.below hb); have O3 := Lib.hid (O2.out.below hb); have Z3 := Lib.hid (Nat.le_trans Z2.out hb.size)
  clear c0 c1 c2 c3 c4 hb HG R2 O2 Z2
  have m2 : v3.cell? ⟨nb + 1, 2, none⟩ = some (.string m.ho) := R3.out.cmd.cell 2
  have HNm := Lib.hid (fun u => refName_any m.ho u HMs.out)
  rw [hnm] at HNm
  go_wp2_with (fail)
  refine (HNm.out _).mono ?_; rintro e v4 ⟨rfl, rfl⟩
  clear m2
  have m0 : v3.cell? ⟨nb + 1, 0, none⟩ = some (.int .i64 m.op) := R3.out.cmd.cell 0
  have m11 : v3.cell? ⟨nb + 1, 11, none⟩ = some (.int .i64 m.ty) := R3.out.cmd.cell 11
  have HTy := Lib.hid (fun u => refType_any m.ty u)
  rw [hty] at HTy
  go_wp2_with (fail)
  refine (HTy.out _).mono ?_; rintro e v4 ⟨rfl, rfl⟩
  clear m11 HTy
  have c0 : v3.cell? ⟨nb, 0, none⟩ = some (.slice A2 t.rs.length k2) := R3.out.box.cell 0
  have c1 : v3.cell? ⟨nb, 1, none⟩ = some (.int .i64 t.ty) := R3.out.box.cell 1
  have c2 : v3.cell? ⟨nb, 2, none⟩ = some (.string t.ho) := R3.out.box.cell 2
  have c3 : v3.cell? ⟨nb, 3, none⟩ = some (.int .u32 t.ge) := R3.out.box.cell 3
  have c4 : v3.cell? ⟨nb, 4, none⟩ = some (.bool t.ap) := R3.out.box.cell 4
  have m2 : v3.cell? ⟨nb + 1, 2, none⟩ = some (.string m.ho) := R3.out.cmd.cell 2
  have HKy := Lib.hid (fun u (hu : Rgs u A2 t.rs) => refKey_any A2 k2 t m.ho u hu HM.out)
  go_wp2_with (fail)
  refine (HKy.out _ R3.out.own.rgs).mono ?_; rintro e v4 ⟨rfl, hb⟩
  have R4 := Lib.hid (R3.out.below hb); have O4 := Lib.hid (O3.out.below hb); have Z4 := Lib.hid (Nat.le_trans Z3.out hb.size)
  clear c0 c1 c2 c3 c4 m2 hb HKy R3 O3 Z3
  clear m0
  have c0 : v4.cell? ⟨nb, 0, none⟩ = some (.slice A2 t.rs.length k2) := R4.out.box.cell 0
  have c1 : v4.cell? ⟨nb, 1, none⟩ = some (.int .i64 t.ty) := R4.out.box.cell 1
  have c2 : v4.cell? ⟨nb, 2, none⟩ = some (.string t.ho) := R4.out.box.cell 2
  have c3 : v4.cell? ⟨nb, 3, none⟩ = some (.int .u32 t.ge) := R4.out.box.cell 3
  have c4 : v4.cell? ⟨nb, 4, none⟩ = some (.bool t.ap) := R4.out.box.cell 4
  have r0 : v4.cell? ⟨nb + 1 + 1, 0, none⟩ = some (.slice none 0 0) := R4.out.res.cell 0
  have q0 : v4.frozen? ⟨nb + 1 + 1, 0, none⟩ = false := R4.out.res.free 0
  have r1 : v4.cell? ⟨nb + 1 + 1, 1, none⟩ = some (.int .i64 0) := R4.out.res.cell 1
  have q1 : v4.frozen? ⟨nb + 1 + 1, 1, none⟩ = false := R4.out.res.free 1
  have r2 : v4.cell? ⟨nb + 1 + 1, 2, none⟩ = some (.string ⟨#[]⟩) := R4.out.res.cell 2
  have q2 : v4.frozen? ⟨nb + 1 + 1, 2, none⟩ = false := R4.out.res.free 2
  have r3 : v4.cell? ⟨nb + 1 + 1, 3, none⟩ = some (.int .u32 0) := R4.out.res.cell 3
  have q3 : v4.frozen? ⟨nb + 1 + 1, 3, none⟩ = false := R4.out.res.free 3
  have r4 : v4.cell? ⟨nb + 1 + 1, 4, none⟩ = some (.bool false) := R4.out.res.cell 4
  have q4 : v4.frozen? ⟨nb + 1 + 1, 4, none⟩ = false := R4.out.res.free 4
  have r5 : v4.cell? ⟨nb + 1 + 1, 5, none⟩ = some (.slice none 0 0) := R4.out.res.cell 5
  have q5 : v4.frozen? ⟨nb + 1 + 1, 5, none⟩ = false := R4.out.res.free 5
  have r6 : v4.cell? ⟨nb + 1 + 1, 6, none⟩ = some (.int .i64 0) := R4.out.res.cell 6
  have q6 : v4.frozen? ⟨nb + 1 + 1, 6, none⟩ = false := R4.out.res.free 6
  go_wp2_with (fail)
  obtain ⟨hK, hO, hB⟩ := td_put R4.out (OwnE.nil v4 nb) (2) _ rfl
  refine bodyPost_ret_by (results_cell_row rfl _ _ (nb + 1 + 1) 43 (tdC A2 k2 (t) none 0 ([]) (2)) (0, 0) _ rfl hK Tryd.underlying43 rfl size43) rfl ?_
  exact ⟨A2, k2, none, 0, rfl, hO.1, hO.2, hB⟩
set_option maxRecDepth 100000 in
set_option maxHeartbeats 4000000 in
theorem refDo_c12b (nb : Nat) (A : Option Addr) (c : Nat) (t : Tl) (m : Cm) (w : World) (hnb : nb = w.heap.size) (hl : Rgs w A t.rs) (hm : t.rs.length ≤ 200) (hs : m.ho.size ≤ 1000) (hgb : goodB t = true) (hnm : nameB m.ho = true) (hop1 : ¬ m.op < 8) (hop2 : ¬ 12 < m.op) (h8 : (m.op == 8) = false) (h9 : (m.op == 9) = false) (h12 : (m.op == 12) = true) (hty : typeB m.ty = true) (k1 : (keyR t.rs m.ho == 0) = false) (q2 : (keyR t.rs m.ho != m.ke) = true) :
    Calls Tryd.prog 23 #[tlV A c t, cmV m] w (RdOut nb w (t) ([]) (2)) := by
  have R0 := Lib.hid (RdS.from w A c t m hl)
  have HM2 := Lib.hid hm
  have HM := Lib.hid (show t.rs.length ≤ maxLen from Nat.le_trans hm (by decide))
  have HMs := Lib.hid (show m.ho.size ≤ maxLen from Nat.le_trans hs (by decide))
  have hnt := not_true
  have hnf := not_false
  clear hl hm hs
  go_enter Tryd.func23, Tryd.ntmps23
  go_upto_region 1 with (fail)
  change Code.wp _ _ _ _ (((w.alloc (.cells (tlC A c t) 27)).alloc (.cells (cmC m) 37)).alloc (.cells tdZ 43))
  generalize ((w.alloc (.cells (tlC A c t) 27)).alloc (.cells (cmC m) 37)).alloc (.cells tdZ 43) = v0 at *
  rw [← hnb] at R0 ⊢
  clear hnb
  have c0 : v0.cell? ⟨nb, 0, none⟩ = some (.slice A t.rs.length c) := R0.out.box.cell 0
  have c1 : v0.cell? ⟨nb, 1, none⟩ = some (.int .i64 t.ty) := R0.out.box.cell 1
  have c2 : v0.cell? ⟨nb, 2, none⟩ = some (.string t.ho) := R0.out.box.cell 2
  have c3 : v0.cell? ⟨nb, 3, none⟩ = some (.int .u32 t.ge) := R0.out.box.cell 3
  have c4 : v0.cell? ⟨nb, 4, none⟩ = some (.bool t.ap) := R0.out.box.cell 4
  go_wp2_with (fail)
  refine (copy_any A c t _ R0.out.rg (Nat.le_trans HM2.out (by decide))).mono ?_; rintro e v1 ⟨A2, k2, rfl, ho, hb⟩
  have hbox := R0.out.box.below hb R0.out.box.lt
  have e0 : v1.cell? ⟨nb, 0, none⟩ = some (.slice A t.rs.length c) := hbox.cell 0
  have f0 : v1.frozen? ⟨nb, 0, none⟩ = false := hbox.free 0
  have e1 : v1.cell? ⟨nb, 1, none⟩ = some (.int .i64 t.ty) := hbox.cell 1
  have f1 : v1.frozen? ⟨nb, 1, none⟩ = false := hbox.free 1
  have e2 : v1.cell? ⟨nb, 2, none⟩ = some (.string t.ho) := hbox.cell 2
  have f2 : v1.frozen? ⟨nb, 2, none⟩ = false := hbox.free 2
  have e3 : v1.cell? ⟨nb, 3, none⟩ = some (.int .u32 t.ge) := hbox.cell 3
  have f3 : v1.frozen? ⟨nb, 3, none⟩ = false := hbox.free 3
  have e4 : v1.cell? ⟨nb, 4, none⟩ = some (.bool t.ap) := hbox.cell 4
  have f4 : v1.frozen? ⟨nb, 4, none⟩ = false := hbox.free 4
  obtain ⟨rr, oo, zz⟩ := R0.out.copied ho hb _ rfl
  have R2 := Lib.hid rr; have O2 := Lib.hid oo; have Z2 := Lib.hid zz
  clear rr oo zz
  clear c0 c1 c2 c3 c4 hbox ho hb
  go_upto_region 2 with (fail)
  generalize (((((v1.setCell ⟨nb, 0, none⟩ (.slice A2 t.rs.length k2)).setCell ⟨nb, 1, none⟩ (.int .i64 t.ty)).setCell ⟨nb, 2, none⟩ (.string t.ho)).setCell ⟨nb, 3, none⟩ (.int .u32 t.ge)).setCell ⟨nb, 4, none⟩ (.bool t.ap)) = v2 at *
  clear e0 e1 e2 e3 e4 f0 f1 f2 f3 f4 R0
  have c0 : v2.cell? ⟨nb, 0, none⟩ = some (.slice A2 t.rs.length k2) := R2.out.box.cell 0
  have c1 : v2.cell? ⟨nb, 1, none⟩ = some (.int .i64 t.ty) := R2.out.box.cell 1
  have c2 : v2.cell? ⟨nb, 2, none⟩ = some (.string t.ho) := R2.out.box.cell 2
  have c3 : v2.cell? ⟨nb, 3, none⟩ = some (.int .u32 t.ge) := R2.out.box.cell 3
  have c4 : v2.cell? ⟨nb, 4, none⟩ = some (.bool t.ap) := R2.out.box.cell 4
  have HG := Lib.hid (fun u (hu : Rgs u A2 t.rs) => refGood_any A2 k2 t u hu HM.out)
  rw [hgb] at HG
  go_wp2_with (fail)
  refine (HG.out _ R2.out.own.rgs).mono ?_; rintro e v3 ⟨rfl, hb⟩
  have R3 := Lib.hid (R2.out.below hb); have O3 := Lib.hid (O2.out.below hb); have Z3 := Lib.hid (Nat.le_trans Z2.out hb.size)
  clear c0 c1 c2 c3 c4 hb HG R2 O2 Z2
  have m2 : v3.cell? ⟨nb + 1, 2, none⟩ = some (.string m.ho) := R3.out.cmd.cell 2
  have HNm := Lib.hid (fun u => refName_any m.ho u HMs.out)
  rw [hnm] at HNm
  go_wp2_with (fail)
  refine (HNm.out _).mono ?_; rintro e v4 ⟨rfl, rfl⟩
  clear m2
  have m0 : v3.cell? ⟨nb + 1, 0, none⟩ = some (.int .i64 m.op) := R3.out.cmd.cell 0
  have m11 : v3.cell? ⟨nb + 1, 11, none⟩ = some (.int .i64 m.ty) := R3.out.cmd.cell 11
  have HTy := Lib.hid (fun u => refType_any m.ty u)
  rw [hty] at HTy
  go_wp2_with (fail)
  refine (HTy.out _).mono ?_; rintro e v4 ⟨rfl, rfl⟩
  clear m11 HTy
  have c0 : v3.cell? ⟨nb, 0, none⟩ = some (.slice A2 t.rs.length k2) := R3.out.box.cell 0
  have c1 : v3.cell? ⟨nb, 1, none⟩ = some (.int .i64 t.ty) := R3.out.box.cell 1
  have c2 : v3.cell? ⟨nb, 2, none⟩ = some (.string t.ho) := R3.out.box.cell 2
  have c3 : v3.cell? ⟨nb, 3, none⟩ = some (.int .u32 t.ge) := R3.out.box.cell 3
  have c4 : v3.cell? ⟨nb, 4, none⟩ = some (.bool t.ap) := R3.out.box.cell 4
  have m2 : v3.cell? ⟨nb + 1, 2, none⟩ = some (.string m.ho) := R3.out.cmd.cell 2
  have HKy := Lib.hid (fun u (hu : Rgs u A2 t.rs) => refKey_any A2 k2 t m.ho u hu HM.out)
  go_wp2_with (fail)
  refine (HKy.out _ R3.out.own.rgs).mono ?_; rintro e v4 ⟨rfl, hb⟩
  have R4 := Lib.hid (R3.out.below hb); have O4 := Lib.hid (O3.out.below hb); have Z4 := Lib.hid (Nat.le_trans Z3.out hb.size)
  clear c0 c1 c2 c3 c4 m2 hb HKy R3 O3 Z3
  clear m0
  have m8 : v4.cell? ⟨nb + 1, 8, none⟩ = some (.int .u64 m.ke) := R4.out.cmd.cell 8
  have c0 : v4.cell? ⟨nb, 0, none⟩ = some (.slice A2 t.rs.length k2) := R4.out.box.cell 0
  have c1 : v4.cell? ⟨nb, 1, none⟩ = some (.int .i64 t.ty) := R4.out.box.cell 1
  have c2 : v4.cell? ⟨nb, 2, none⟩ = some (.string t.ho) := R4.out.box.cell 2
  have c3 : v4.cell? ⟨nb, 3, none⟩ = some (.int .u32 t.ge) := R4.out.box.cell 3
  have c4 : v4.cell? ⟨nb, 4, none⟩ = some (.bool t.ap) := R4.out.box.cell 4
  have r0 : v4.cell? ⟨nb + 1 + 1, 0, none⟩ = some (.slice none 0 0) := R4.out.res.cell 0
  have q0 : v4.frozen? ⟨nb + 1 + 1, 0, none⟩ = false := R4.out.res.free 0
  have r1 : v4.cell? ⟨nb + 1 + 1, 1, none⟩ = some (.int .i64 0) := R4.out.res.cell 1
  have q1 : v4.frozen? ⟨nb + 1 + 1, 1, none⟩ = false := R4.out.res.free 1
  have r2 : v4.cell? ⟨nb + 1 + 1, 2, none⟩ = some (.string ⟨#[]⟩) := R4.out.res.cell 2
  have q2 : v4.frozen? ⟨nb + 1 + 1, 2, none⟩ = false := R4.out.res.free 2
  have r3 : v4.cell? ⟨nb + 1 + 1, 3, none⟩ = some (.int .u32 0) := R4.out.res.cell 3
  have q3 : v4.frozen? ⟨nb + 1 + 1, 3, none⟩ = false := R4.out.res.free 3
  have r4 : v4.cell? ⟨nb + 1 + 1, 4, none⟩ = some (.bool false) := R4.out.res.cell 4
  have q4 : v4.frozen? ⟨nb + 1 + 1, 4, none⟩ = false := R4.out.res.free 4
  have r5 : v4.cell? ⟨nb + 1 + 1, 5, none⟩ = some (.slice none 0 0) := R4.out.res.cell 5
  have q5 : v4.frozen? ⟨nb + 1 + 1, 5, none⟩ = false := R4.out.res.free 5
  have r6 : v4.cell? ⟨nb + 1 + 1, 6, none⟩ = some (.int .i64 0) := R4.out.res.cell 6
  have q6 : v4.frozen? ⟨nb + 1 + 1, 6, none⟩ = false := R4.out.res.free 6
  go_wp2_with (fail)
  obtain ⟨hK, hO, hB⟩ := td_put R4.out (OwnE.nil v4 nb) (2) _ rfl
  refine bodyPost_ret_by (results_cell_row rfl _ _ (nb + 1 + 1) 43 (tdC A2 k2 (t) none 0 ([]) (2)) (0, 0) _ rfl hK Tryd.underlying43 rfl size43) rfl ?_
  exact ⟨A2, k2, none, 0, rfl, hO.1, hO.2, hB⟩
set_option maxRecDepth 100000 in
set_option maxHeartbeats 4000000 in
theorem refDo_cna (nb : Nat) (A : Option Addr) (c : Nat) (t : Tl) (m : Cm) (w : World) (hnb : nb = w.heap.size) (hl : Rgs w A t.rs) (hm : t.rs.length ≤ 200) (hs : m.ho.size ≤ 1000) (hgb : goodB t = true) (hnm : nameB m.ho = true) (hop1 : ¬ m.op < 8) (hop2 : ¬ 12 < m.op) (h8 : (m.op == 8) = false) (h9 : (m.op == 9) = false) (h12 : (m.op == 12) = false) (k1 : (keyR t.rs m.ho == 0) = true) :
    Calls Tryd.prog 23 #[tlV A c t, cmV m] w (RdOut nb w (t) ([]) (2)) := by
  have R0 := Lib.hid (RdS.from w A c t m hl)
  have HM2 := Lib.hid hm
  have HM := Lib.hid (show t.rs.length ≤ maxLen from Nat.le_trans hm (by decide))
  have HMs := Lib.hid (show m.ho.size ≤ maxLen from Nat.le_trans hs (by decide))
  have hnt := not_true
  have hnf := not_false
  clear hl hm hs
  go_enter Tryd.func23, Tryd.ntmps23
  go_upto_region 1 with (fail)
  change Code.wp _ _ _ _ (((w.alloc (.cells (tlC A c t) 27)).alloc (.cells (cmC m) 37)).alloc (.cells tdZ 43))
  generalize ((w.alloc (.cells (tlC A c t) 27)).alloc (.cells (cmC m) 37)).alloc (.cells tdZ 43) = v0 at *
  rw [← hnb] at R0 ⊢
  clear hnb
  have c0 : v0.cell? ⟨nb, 0, none⟩ = some (.slice A t.rs.length c) := R0.out.box.cell 0
  have c1 : v0.cell? ⟨nb, 1, none⟩ = some (.int .i64 t.ty) := R0.out.box.cell 1
  have c2 : v0.cell? ⟨nb, 2, none⟩ = some (.string t.ho) := R0.out.box.cell 2
  have c3 : v0.cell? ⟨nb, 3, none⟩ = some (.int .u32 t.ge) := R0.out.box.cell 3
  have c4 : v0.cell? ⟨nb, 4, none⟩ = some (.bool t.ap) := R0.out.box.cell 4
  go_wp2_with (fail)
  refine (copy_any A c t _ R0.out.rg (Nat.le_trans HM2.out (by decide))).mono ?_; rintro e v1 ⟨A2, k2, rfl, ho, hb⟩
  have hbox := R0.out.box.below hb R0.out.box.lt
  have e0 : v1.cell? ⟨nb, 0, none⟩ = some (.slice A t.rs.length c) := hbox.cell 0
  have f0 : v1.frozen? ⟨nb, 0, none⟩ = false := hbox.free 0
  have e1 : v1.cell? ⟨nb, 1, none⟩ = some (.int .i64 t.ty) := hbox.cell 1
  have f1 : v1.frozen? ⟨nb, 1, none⟩ = false := hbox.free 1
  have e2 : v1.cell? ⟨nb, 2, none⟩ = some (.string t.ho) := hbox.cell 2
  have f2 : v1.frozen? ⟨nb, 2, none⟩ = false := hbox.free 2
  have e3 : v1.cell? ⟨nb, 3, none⟩ = some (.int .u32 t.ge) := hbox.cell 3
  have f3 : v1.frozen? ⟨nb, 3, none⟩ = false := hbox.free 3
  have e4 : v1.cell? ⟨nb, 4, none⟩ = some (.bool t.ap) := hbox.cell 4
  have f4 : v1.frozen? ⟨nb, 4, none⟩ = false := hbox.free 4
  obtain ⟨rr, oo, zz⟩ := R0.out.copied ho hb _ rfl
  have R2 := Lib.hid rr; have O2 := Lib.hid oo; have Z2 := Lib.hid zz
  clear rr oo zz
  clear c0 c1 c2 c3 c4 hbox ho hb
  go_upto_region 2 with (fail)
  generalize (((((v1.setCell ⟨nb, 0, none⟩ (.slice A2 t.rs.length k2)).setCell ⟨nb, 1, none⟩ (.int .i64 t.ty)).setCell ⟨nb, 2, none⟩ (.string t.ho)).setCell ⟨nb, 3, none⟩ (.int .u32 t.ge)).setCell ⟨nb, 4, none⟩ (.bool t.ap)) = v2 at *
  clear e0 e1 e2 e3 e4 f0 f1 f2 f3 f4 R0
  have c0 : v2.cell? ⟨nb, 0, none⟩ = some (.slice A2 t.rs.length k2) := R2.out.box.cell 0
  have c1 : v2.cell? ⟨nb, 1, none⟩ = some (.int .i64 t.ty) := R2.out.box.cell 1
  have c2 : v2.cell? ⟨nb, 2, none⟩ = some (.string t.ho) := R2.out.box.cell 2
  have c3 : v2.cell? ⟨nb, 3, none⟩ = some (.int .u32 t.ge) := R2.out.box.cell 3
  have c4 : v2.cell? ⟨nb, 4, none⟩ = some (.bool t.ap) := R2.out.box.cell 4
  have HG := Lib.hid (fun u (hu : Rgs u A2 t.rs) => refGood_any A2 k2 t u hu HM.out)
  rw [hgb] at HG
  go_wp2_with (fail)
  refine (HG.out _ R2.out.own.rgs).mono ?_; rintro e v3 ⟨rfl, hb⟩
  have R3 := Lib.hid (R2.out.below hb); have O3 := Lib.hid (O2.out.below hb); have Z3 := Lib.hid (Nat.le_trans Z2.out hb.size)
  clear c0 c1 c2 c3 c4 hb HG R2 O2 Z2
  have m2 : v3.cell? ⟨nb + 1, 2, none⟩ = some (.string m.ho) := R3.out.cmd.cell 2
  have HNm := Lib.hid (fun u => refName_any m.ho u HMs.out)
  rw [hnm] at HNm
  go_wp2_with (fail)
  refine (HNm.out _).mono ?_; rintro e v4 ⟨rfl, rfl⟩
  clear m2
  have m0 : v3.cell? ⟨nb + 1, 0, none⟩ = some (.int .i64 m.op) := R3.out.cmd.cell 0
  have c0 : v3.cell? ⟨nb, 0, none⟩ = some (.slice A2 t.rs.length k2) := R3.out.box.cell 0
  have c1 : v3.cell? ⟨nb, 1, none⟩ = some (.int .i64 t.ty) := R3.out.box.cell 1
  have c2 : v3.cell? ⟨nb, 2, none⟩ = some (.string t.ho) := R3.out.box.cell 2
  have c3 : v3.cell? ⟨nb, 3, none⟩ = some (.int .u32 t.ge) := R3.out.box.cell 3
  have c4 : v3.cell? ⟨nb, 4, none⟩ = some (.bool t.ap) := R3.out.box.cell 4
  have m2 : v3.cell? ⟨nb + 1, 2, none⟩ = some (.string m.ho) := R3.out.cmd.cell 2
  have HKy := Lib.hid (fun u (hu : Rgs u A2 t.rs) => refKey_any A2 k2 t m.ho u hu HM.out)
  go_wp2_with (fail)
  refine (HKy.out _ R3.out.own.rgs).mono ?_; rintro e v4 ⟨rfl, hb⟩
  have R4 := Lib.hid (R3.out.below hb); have O4 := Lib.hid (O3.out.below hb); have Z4 := Lib.hid (Nat.le_trans Z3.out hb.size)
  clear c0 c1 c2 c3 c4 m2 hb HKy R3 O3 Z3
  clear m0
  have c0 : v4.cell? ⟨nb, 0, none⟩ = some (.slice A2 t.rs.length k2) := R4.out.box.cell 0
  have c1 : v4.cell? ⟨nb, 1, none⟩ = some (.int .i64 t.ty) := R4.out.box.cell 1
  have c2 : v4.cell? ⟨nb, 2, none⟩ = some (.string t.ho) := R4.out.box.cell 2
  have c3 : v4.cell? ⟨nb, 3, none⟩ = some (.int .u32 t.ge) := R4.out.box.cell 3
  have c4 : v4.cell? ⟨nb, 4, none⟩ = some (.bool t.ap) := R4.out.box.cell 4
  have r0 : v4.cell? ⟨nb + 1 + 1, 0, none⟩ = some (.slice none 0 0) := R4.out.res.cell 0
  have q0 : v4.frozen? ⟨nb + 1 + 1, 0, none⟩ = false := R4.out.res.free 0
  have r1 : v4.cell? ⟨nb + 1 + 1, 1, none⟩ = some (.int .i64 0) := R4.out.res.cell 1
  have q1 : v4.frozen? ⟨nb + 1 + 1, 1, none⟩ = false := R4.out.res.free 1
  have r2 : v4.cell? ⟨nb + 1 + 1, 2, none⟩ = some (.string ⟨#[]⟩) := R4.out.res.cell 2
  have q2 : v4.frozen? ⟨nb + 1 + 1, 2, none⟩ = false := R4.out.res.free 2
  have r3 : v4.cell? ⟨nb + 1 + 1, 3, none⟩ = some (.int .u32 0) := R4.out.res.cell 3
  have q3 : v4.frozen? ⟨nb + 1 + 1, 3, none⟩ = false := R4.out.res.free 3
  have r4 : v4.cell? ⟨nb + 1 + 1, 4, none⟩ = some (.bool false) := R4.out.res.cell 4
  have q4 : v4.frozen? ⟨nb + 1 + 1, 4, none⟩ = false := R4.out.res.free 4
  have r5 : v4.cell? ⟨nb + 1 + 1, 5, none⟩ = some (.slice none 0 0) := R4.out.res.cell 5
  have q5 : v4.frozen? ⟨nb + 1 + 1, 5, none⟩ = false := R4.out.res.free 5
  have r6 : v4.cell? ⟨nb + 1 + 1, 6, none⟩ = some (.int .i64 0) := R4.out.res.cell 6
  have q6 : v4.frozen? ⟨nb + 1 + 1, 6, none⟩ = false := R4.out.res.free 6
  go_wp2_with (fail)
  obtain ⟨hK, hO, hB⟩ := td_put R4.out (OwnE.nil v4 nb) (2) _ rfl
  refine bodyPost_ret_by (results_cell_row rfl _ _ (nb + 1 + 1) 43 (tdC A2 k2 (t) none 0 ([]) (2)) (0, 0) _ rfl hK Tryd.underlying43 rfl size43) rfl ?_
  exact ⟨A2, k2, none, 0, rfl, hO.1, hO.2, hB⟩
set_option maxRecDepth 100000 in
set_option maxHeartbeats 4000000 in
theorem refDo_cnb (nb : Nat) (A : Option Addr) (c : Nat) (t : Tl) (m : Cm) (w : World) (hnb : nb = w.heap.size) (hl : Rgs w A t.rs) (hm : t.rs.length ≤ 200) (hs : m.ho.size ≤ 1000) (hgb : goodB t = true) (hnm : nameB m.ho = true) (hop1 : ¬ m.op < 8) (hop2 : ¬ 12 < m.op) (h8 : (m.op == 8) = false) (h9 : (m.op == 9) = false) (h12 : (m.op == 12) = false) (k1 : (keyR t.rs m.ho == 0) = false) (q2 : (keyR t.rs m.ho != m.ke) = true) :
    Calls Tryd.prog 23 #[tlV A c t, cmV m] w (RdOut nb w (t) ([]) (2)) := by
  have R0 := Lib.hid (RdS.from w A c t m hl)
  have HM2 := Lib.hid hm
  have HM := Lib.hid (show t.rs.length ≤ maxLen from Nat.le_trans hm (by decide))
  have HMs := Lib.hid (show m.ho.size ≤ maxLen from Nat.le_trans hs (by decide))
  have hnt := not_true
  have hnf := not_false
  clear hl hm hs
  go_enter Tryd.func23, Tryd.ntmps23
  go_upto_region 1 with (fail)
  change Code.wp _ _ _ _ (((w.alloc (.cells (tlC A c t) 27)).alloc (.cells (cmC m) 37)).alloc (.cells tdZ 43))
  generalize ((w.alloc (.cells (tlC A c t) 27)).alloc (.cells (cmC m) 37)).alloc (.cells tdZ 43) = v0 at *
  rw [← hnb] at R0 ⊢
  clear hnb
  have c0 : v0.cell? ⟨nb, 0, none⟩ = some (.slice A t.rs.length c) := R0.out.box.cell 0
  have c1 : v0.cell? ⟨nb, 1, none⟩ = some (.int .i64 t.ty) := R0.out.box.cell 1
  have c2 : v0.cell? ⟨nb, 2, none⟩ = some (.string t.ho) := R0.out.box.cell 2
  have c3 : v0.cell? ⟨nb, 3, none⟩ = some (.int .u32 t.ge) := R0.out.box.cell 3
  have c4 : v0.cell? ⟨nb, 4, none⟩ = some (.bool t.ap) := R0.out.box.cell 4
  go_wp2_with (fail)
  refine (copy_any A c t _ R0.out.rg (Nat.le_trans HM2.out (by decide))).mono ?_; rintro e v1 ⟨A2, k2, rfl, ho, hb⟩
  have hbox := R0.out.box.below hb R0.out.box.lt
  have e0 : v1.cell? ⟨nb, 0, none⟩ = some (.slice A t.rs.length c) := hbox.cell 0
  have f0 : v1.frozen? ⟨nb, 0, none⟩ = false := hbox.free 0
  have e1 : v1.cell? ⟨nb, 1, none⟩ = some (.int .i64 t.ty) := hbox.cell 1
  have f1 : v1.frozen? ⟨nb, 1, none⟩ = false := hbox.free 1
  have e2 : v1.cell? ⟨nb, 2, none⟩ = some (.string t.ho) := hbox.cell 2
  have f2 : v1.frozen? ⟨nb, 2, none⟩ = false := hbox.free 2
  have e3 : v1.cell? ⟨nb, 3, none⟩ = some (.int .u32 t.ge) := hbox.cell 3
  have f3 : v1.frozen? ⟨nb, 3, none⟩ = false := hbox.free 3
  have e4 : v1.cell? ⟨nb, 4, none⟩ = some (.bool t.ap) := hbox.cell 4
  have f4 : v1.frozen? ⟨nb, 4, none⟩ = false := hbox.free 4
  obtain ⟨rr, oo, zz⟩ := R0.out.copied ho hb _ rfl
  have R2 := Lib.hid rr; have O2 := Lib.hid oo; have Z2 := Lib.hid zz
  clear rr oo zz
  clear c0 c1 c2 c3 c4 hbox ho hb
  go_upto_region 2 with (fail)
  generalize (((((v1.setCell ⟨nb, 0, none⟩ (.slice A2 t.rs.length k2)).setCell ⟨nb, 1, none⟩ (.int .i64 t.ty)).setCell ⟨nb, 2, none⟩ (.string t.ho)).setCell ⟨nb, 3, none⟩ (.int .u32 t.ge)).setCell ⟨nb, 4, none⟩ (.bool t.ap)) = v2 at *
  clear e0 e1 e2 e3 e4 f0 f1 f2 f3 f4 R0
  have c0 : v2.cell? ⟨nb, 0, none⟩ = some (.slice A2 t.rs.length k2) := R2.out.box.cell 0
  have c1 : v2.cell? ⟨nb, 1, none⟩ = some (.int .i64 t.ty) := R2.out.box.cell 1
  have c2 : v2.cell? ⟨nb, 2, none⟩ = some (.string t.ho) := R2.out.box.cell 2
  have c3 : v2.cell? ⟨nb, 3, none⟩ = some (.int .u32 t.ge) := R2.out.box.cell 3
  have c4 : v2.cell? ⟨nb, 4, none⟩ = some (.bool t.ap) := R2.out.box.cell 4
  have HG := Lib.hid (fun u (hu : Rgs u A2 t.rs) => refGood_any A2 k2 t u hu HM.out)
  rw [hgb] at HG
  go_wp2_with (fail)
  refine (HG.out _ R2.out.own.rgs).mono ?_; rintro e v3 ⟨rfl, hb⟩
  have R3 := Lib.hid (R2.out.below hb); have O3 := Lib.hid (O2.out.below hb); have Z3 := Lib.hid (Nat.le_trans Z2.out hb.size)
  clear c0 c1 c2 c3 c4 hb HG R2 O2 Z2
  have m2 : v3.cell? ⟨nb + 1, 2, none⟩ = some (.string m.ho) := R3.out.cmd.cell 2
  have HNm := Lib.hid (fun u => refName_any m.ho u HMs.out)
  rw [hnm] at HNm
  go_wp2_with (fail)
  refine (HNm.out _).mono ?_; rintro e v4 ⟨rfl, rfl⟩
  clear m2
  have m0 : v3.cell? ⟨nb + 1, 0, none⟩ = some (.int .i64 m.op) := R3.out.cmd.cell 0
  have c0 : v3.cell? ⟨nb, 0, none⟩ = some (.slice A2 t.rs.length k2) := R3.out.box.cell 0
  have c1 : v3.cell? ⟨nb, 1, none⟩ = some (.int .i64 t.ty) := R3.out.box.cell 1
  have c2 : v3.cell? ⟨nb, 2, none⟩ = some (.string t.ho) := R3.out.box.cell 2
  have c3 : v3.cell? ⟨nb, 3, none⟩ = some (.int .u32 t.ge) := R3.out.box.cell 3
  have c4 : v3.cell? ⟨nb, 4, none⟩ = some (.bool t.ap) := R3.out.box.cell 4
  have m2 : v3.cell? ⟨nb + 1, 2, none⟩ = some (.string m.ho) := R3.out.cmd.cell 2
  have HKy := Lib.hid (fun u (hu : Rgs u A2 t.rs) => refKey_any A2 k2 t m.ho u hu HM.out)
  go_wp2_with (fail)
  refine (HKy.out _ R3.out.own.rgs).mono ?_; rintro e v4 ⟨rfl, hb⟩
  have R4 := Lib.hid (R3.out.below hb); have O4 := Lib.hid (O3.out.below hb); have Z4 := Lib.hid (Nat.le_trans Z3.out hb.size)
  clear c0 c1 c2 c3 c4 m2 hb HKy R3 O3 Z3
  clear m0
  have m8 : v4.cell? ⟨nb + 1, 8, none⟩ = some (.int .u64 m.ke) := R4.out.cmd.cell 8
  have c0 : v4.cell? ⟨nb, 0, none⟩ = some (.slice A2 t.rs.length k2) := R4.out.box.cell 0
  have c1 : v4.cell? ⟨nb, 1, none⟩ = some (.int .i64 t.ty) := R4.out.box.cell 1
  have c2 : v4.cell? ⟨nb, 2, none⟩ = some (.string t.ho) := R4.out.box.cell 2
  have c3 : v4.cell? ⟨nb, 3, none⟩ = some (.int .u32 t.ge) := R4.out.box.cell 3
  have c4 : v4.cell? ⟨nb, 4, none⟩ = some (.bool t.ap) := R4.out.box.cell 4
  have r0 : v4.cell? ⟨nb + 1 + 1, 0, none⟩ = some (.slice none 0 0) := R4.out.res.cell 0
  have q0 : v4.frozen? ⟨nb + 1 + 1, 0, none⟩ = false := R4.out.res.free 0
  have r1 : v4.cell? ⟨nb + 1 + 1, 1, none⟩ = some (.int .i64 0) := R4.out.res.cell 1
  have q1 : v4.frozen? ⟨nb + 1 + 1, 1, none⟩ = false := R4.out.res.free 1
  have r2 : v4.cell? ⟨nb + 1 + 1, 2, none⟩ = some (.string ⟨#[]⟩) := R4.out.res.cell 2
  have q2 : v4.frozen? ⟨nb + 1 + 1, 2, none⟩ = false := R4.out.res.free 2
  have r3 : v4.cell? ⟨nb + 1 + 1, 3, none⟩ = some (.int .u32 0) := R4.out.res.cell 3
  have q3 : v4.frozen? ⟨nb + 1 + 1, 3, none⟩ = false := R4.out.res.free 3
  have r4 : v4.cell? ⟨nb + 1 + 1, 4, none⟩ = some (.bool false) := R4.out.res.cell 4
  have q4 : v4.frozen? ⟨nb + 1 + 1, 4, none⟩ = false := R4.out.res.free 4
  have r5 : v4.cell? ⟨nb + 1 + 1, 5, none⟩ = some (.slice none 0 0) := R4.out.res.cell 5
  have q5 : v4.frozen? ⟨nb + 1 + 1, 5, none⟩ = false := R4.out.res.free 5
  have r6 : v4.cell? ⟨nb + 1 + 1, 6, none⟩ = some (.int .i64 0) := R4.out.res.cell 6
  have q6 : v4.frozen? ⟨nb + 1 + 1, 6, none⟩ = false := R4.out.res.free 6
  go_wp2_with (fail)
  obtain ⟨hK, hO, hB⟩ := td_put R4.out (OwnE.nil v4 nb) (2) _ rfl
  refine bodyPost_ret_by (results_cell_row rfl _ _ (nb + 1 + 1) 43 (tdC A2 k2 (t) none 0 ([]) (2)) (0, 0) _ rfl hK Tryd.underlying43 rfl size43) rfl ?_
  exact ⟨A2, k2, none, 0, rfl, hO.1, hO.2, hB⟩
end Go.Proofs.YtgekadfkokkapaaDoor
