/- The document's Do: a reservation made, released, all cleared, others struck. The document's Do, whatever the operation; its preempt is left to a contract. The document's preempt, its paths joined. The document's: two lists of events that are alike. What is kept along every change: the statement. -/
import Derived.Test.YtgekadfkokkapaaDoorPk30
import Derived.Test.YtgekadfkokkapaaDoorPk23
import Derived.Test.YtgekadfkokkapaaDoorPk24
import Derived.Test.YtgekadfkokkapaaDoorPk12
import Derived.Test.YtgekadfkokkapaaDoorPk20
namespace Go.Proofs.YtgekadfkokkapaaDoor
open Go.RowKit
set_option maxRecDepth 100000 in
set_option maxHeartbeats 4000000 in
theorem refDo_resv (nb : Nat) (A : Option Addr) (c : Nat) (t : Tl) (m : Cm) (w : World) (hnb : nb = w.heap.size) (hl : Rgs w A t.rs) (hm : t.rs.length ≤ 200) (hs : m.ho.size ≤ 1000) (hgb : goodB t = true) (hnm : nameB m.ho = true) (hop1 : ¬ m.op < 8) (hop2 : ¬ 12 < m.op) (h8 : (m.op == 8) = false) (h9 : (m.op == 9) = true) (hty : typeB m.ty = true) (k1 : (keyR t.rs m.ho == 0) = false) (q2 : (keyR t.rs m.ho != m.ke) = false) (hrg : regdB t m = true) :
    Calls Tryd.prog 23 #[tlV A c t, cmV m] w (RdOut nb w (resvT t m) ([]) (resvCode t m)) := by
  have R0 := Lib.hid (RdS.from w A c t m hl)
  have HM2 := Lib.hid hm
  have HM := Lib.hid (show t.rs.length ≤ maxLen from Nat.le_trans hm (by decide))
  have HMs := Lib.hid (show m.ho.size ≤ maxLen from Nat.le_trans hs (by decide))
  have hnt := not_true
  have hnf := not_false
  clear hl hm hs
  have HTt := Lib.hid hty; have HRr := Lib.hid hrg
  go_enter Tryd.func23, Tryd.ntmps23
  go_upto_region 1 with (fail)
  change Code.wp _ _ _ _ (((w.alloc (.cells (tlC A c t) 27)).alloc (.cells (cmC m) 37)).alloc (.cells tdZ 43))
  generalize ((w.alloc (.cells (tlC A c t) 27)).alloc (.cells (cmC m) 37)).alloc (.cells tdZ 43) = v0 at *
  rw [← hnb] at R0 ⊢
  clear hnb
  have c0 : v0.cell? ⟨nb, 0, none⟩ = some (.slice A t.rs.length c) := R0.out.box.cell 0
  have c1 : v0.cell? ⟨nb, 1, none⟩ = some (.int .i64 t.ty) := R0.out.box.cell 1
  have c2 : v0.cell? ⟨nb, 2, none⟩ = some (.string t.ho) := R0.out.box.cell 2
  have c3 : v0.cell? ⟨nb, 3, none⟩ = some (.int .u32 t.ge) := R0.out.box.cell 3
  have c4 : v0.cell? ⟨nb, 4, none⟩ = some (.bool t.ap) := R0.out.box.cell 4
  go_wp2_with (fail)
  refine (copy_any A c t _ R0.out.rg (Nat.le_trans HM2.out (by decide))).mono ?_; rintro e v1 ⟨A2, k2, rfl, ho, hb⟩
  have hbox := R0.out.box.below hb R0.out.box.lt
  have e0 : v1.cell? ⟨nb, 0, none⟩ = some (.slice A t.rs.length c) := hbox.cell 0
  have f0 : v1.frozen? ⟨nb, 0, none⟩ = false := hbox.free 0
  have e1 : v1.cell? ⟨nb, 1, none⟩ = some (.int .i64 t.ty) := hbox.cell 1
  have f1 : v1.frozen? ⟨nb, 1, none⟩ = false := hbox.free 1
  have e2 : v1.cell? ⟨nb, 2, none⟩ = some (.string t.ho) := hbox.cell 2
  have f2 : v1.frozen? ⟨nb, 2, none⟩ = false := hbox.free 2
  have e3 : v1.cell? ⟨nb, 3, none⟩ = some (.int .u32 t.ge) := hbox.cell 3
  have f3 : v1.frozen? ⟨nb, 3, none⟩ = false := hbox.free 3
  have e4 : v1.cell? ⟨nb, 4, none⟩ = some (.bool t.ap) := hbox.cell 4
  have f4 : v1.frozen? ⟨nb, 4, none⟩ = false := hbox.free 4
  obtain ⟨rr, oo, zz⟩ := R0.out.copied ho hb _ rfl
  have R2 := Lib.hid rr; have O2 := Lib.hid oo; have Z2 := Lib.hid zz
  clear rr oo zz
  clear c0 c1 c2 c3 c4 hbox ho hb
  go_upto_region 2 with (fail)
  generalize (((((v1.setCell ⟨nb, 0, none⟩ (.slice A2 t.rs.length k2)).setCell ⟨nb, 1, none⟩ (.int .i64 t.ty)).setCell ⟨nb, 2, none⟩ (.string t.ho)).setCell ⟨nb, 3, none⟩ (.int .u32 t.ge)).setCell ⟨nb, 4, none⟩ (.bool t.ap)) = v2 at *
  clear e0 e1 e2 e3 e4 f0 f1 f2 f3 f4 R0
  have c0 : v2.cell? ⟨nb, 0, none⟩ = some (.slice A2 t.rs.length k2) := R2.out.box.cell 0
  have c1 : v2.cell? ⟨nb, 1, none⟩ = some (.int .i64 t.ty) := R2.out.box.cell 1
  have c2 : v2.cell? ⟨nb, 2, none⟩ = some (.string t.ho) := R2.out.box.cell 2
  have c3 : v2.cell? ⟨nb, 3, none⟩ = some (.int .u32 t.ge) := R2.out.box.cell 3
  have c4 : v2.cell? ⟨nb, 4, none⟩ = some (.bool t.ap) := R2.out.box.cell 4
  have HG := Lib.hid (fun u (hu : Rgs u A2 t.rs) => refGood_any A2 k2 t u hu HM.out)
  rw [hgb] at HG
  go_wp2_with (fail)
  refine (HG.out _ R2.out.own.rgs).mono ?_; rintro e v3 ⟨rfl, hb⟩
  have R3 := Lib.hid (R2.out.below hb); have O3 := Lib.hid (O2.out.below hb); have Z3 := Lib.hid (Nat.le_trans Z2.out hb.size)
  clear c0 c1 c2 c3 c4 hb HG R2 O2 Z2
  have m2 : v3.cell? ⟨nb + 1, 2, none⟩ = some (.string m.ho) := R3.out.cmd.cell 2
  have HNm := Lib.hid (fun u => refName_any m.ho u HMs.out)
  rw [hnm] at HNm
  go_wp2_with (fail)
  refine (HNm.out _).mono ?_; rintro e v4 ⟨rfl, rfl⟩
  clear m2
  have m0 : v3.cell? ⟨nb + 1, 0, none⟩ = some (.int .i64 m.op) := R3.out.cmd.cell 0
  have m11 : v3.cell? ⟨nb + 1, 11, none⟩ = some (.int .i64 m.ty) := R3.out.cmd.cell 11
  have HTy := Lib.hid (fun u => refType_any m.ty u)
  rw [hty] at HTy
  go_wp2_with (fail)
  refine (HTy.out _).mono ?_; rintro e v4 ⟨rfl, rfl⟩
  clear m11 HTy
  have c0 : v3.cell? ⟨nb, 0, none⟩ = some (.slice A2 t.rs.length k2) := R3.out.box.cell 0
  have c1 : v3.cell? ⟨nb, 1, none⟩ = some (.int .i64 t.ty) := R3.out.box.cell 1
  have c2 : v3.cell? ⟨nb, 2, none⟩ = some (.string t.ho) := R3.out.box.cell 2
  have c3 : v3.cell? ⟨nb, 3, none⟩ = some (.int .u32 t.ge) := R3.out.box.cell 3
  have c4 : v3.cell? ⟨nb, 4, none⟩ = some (.bool t.ap) := R3.out.box.cell 4
  have m2 : v3.cell? ⟨nb + 1, 2, none⟩ = some (.string m.ho) := R3.out.cmd.cell 2
  have HKy := Lib.hid (fun u (hu : Rgs u A2 t.rs) => refKey_any A2 k2 t m.ho u hu HM.out)
  go_wp2_with (fail)
  refine (HKy.out _ R3.out.own.rgs).mono ?_; rintro e v4 ⟨rfl, hb⟩
  have R4 := Lib.hid (R3.out.below hb); have O4 := Lib.hid (O3.out.below hb); have Z4 := Lib.hid (Nat.le_trans Z3.out hb.size)
  clear c0 c1 c2 c3 c4 m2 hb HKy R3 O3 Z3
  clear m0
  have m8 : v4.cell? ⟨nb + 1, 8, none⟩ = some (.int .u64 m.ke) := R4.out.cmd.cell 8
  have c0 : v4.cell? ⟨nb, 0, none⟩ = some (.slice A2 t.rs.length k2) := R4.out.box.cell 0
  have c1 : v4.cell? ⟨nb, 1, none⟩ = some (.int .i64 t.ty) := R4.out.box.cell 1
  have c2 : v4.cell? ⟨nb, 2, none⟩ = some (.string t.ho) := R4.out.box.cell 2
  have c3 : v4.cell? ⟨nb, 3, none⟩ = some (.int .u32 t.ge) := R4.out.box.cell 3
  have c4 : v4.cell? ⟨nb, 4, none⟩ = some (.bool t.ap) := R4.out.box.cell 4
  have m0 : v4.cell? ⟨nb + 1, 0, none⟩ = some (.int .i64 m.op) := R4.out.cmd.cell 0
  have m1 : v4.cell? ⟨nb + 1, 1, none⟩ = some (.int .i64 m.lu) := R4.out.cmd.cell 1
  have m2 : v4.cell? ⟨nb + 1, 2, none⟩ = some (.string m.ho) := R4.out.cmd.cell 2
  have m3 : v4.cell? ⟨nb + 1, 3, none⟩ = some (.int .i64 m.lb) := R4.out.cmd.cell 3
  have m4 : v4.cell? ⟨nb + 1, 4, none⟩ = some (.int .i64 m.bl) := R4.out.cmd.cell 4
  have m5 : v4.cell? ⟨nb + 1, 5, none⟩ = some (.string m.da) := R4.out.cmd.cell 5
  have m6 : v4.cell? ⟨nb + 1, 6, none⟩ = some (.bool m.fu) := R4.out.cmd.cell 6
  have m7 : v4.cell? ⟨nb + 1, 7, none⟩ = some (.slice m.rA m.rn m.rc) := R4.out.cmd.cell 7
  have m8 : v4.cell? ⟨nb + 1, 8, none⟩ = some (.int .u64 m.ke) := R4.out.cmd.cell 8
  have m9 : v4.cell? ⟨nb + 1, 9, none⟩ = some (.int .u64 m.nk) := R4.out.cmd.cell 9
  have m10 : v4.cell? ⟨nb + 1, 10, none⟩ = some (.int .u64 m.ot) := R4.out.cmd.cell 10
  have m11 : v4.cell? ⟨nb + 1, 11, none⟩ = some (.int .i64 m.ty) := R4.out.cmd.cell 11
  have m12 : v4.cell? ⟨nb + 1, 12, none⟩ = some (.bool m.ig) := R4.out.cmd.cell 12
  have m13 : v4.cell? ⟨nb + 1, 13, none⟩ = some (.int .i64 m.ap) := R4.out.cmd.cell 13
  go_wp2_with (fail)
  refine (refResv_any (nb + 3) A2 k2 t m _ O4.out Z4.out HM2.out HTt.out HRr.out).mono ?_; rintro e v5 ⟨A5, k5, B5, e5, rfl, ho5, he5, hb5⟩
  have hres := R4.out.res.below hb5 (by omega)
  clear c0 c1 c2 c3 c4 m0 m1 m2 m3 m4 m5 m6 m7 m8 m9 m10 m11 m12 m13
  have r0 : v5.cell? ⟨nb + 1 + 1, 0, none⟩ = some (.slice none 0 0) := hres.cell 0
  have q0 : v5.frozen? ⟨nb + 1 + 1, 0, none⟩ = false := hres.free 0
  have r1 : v5.cell? ⟨nb + 1 + 1, 1, none⟩ = some (.int .i64 0) := hres.cell 1
  have q1 : v5.frozen? ⟨nb + 1 + 1, 1, none⟩ = false := hres.free 1
  have r2 : v5.cell? ⟨nb + 1 + 1, 2, none⟩ = some (.string ⟨#[]⟩) := hres.cell 2
  have q2 : v5.frozen? ⟨nb + 1 + 1, 2, none⟩ = false := hres.free 2
  have r3 : v5.cell? ⟨nb + 1 + 1, 3, none⟩ = some (.int .u32 0) := hres.cell 3
  have q3 : v5.frozen? ⟨nb + 1 + 1, 3, none⟩ = false := hres.free 3
  have r4 : v5.cell? ⟨nb + 1 + 1, 4, none⟩ = some (.bool false) := hres.cell 4
  have q4 : v5.frozen? ⟨nb + 1 + 1, 4, none⟩ = false := hres.free 4
  have r5 : v5.cell? ⟨nb + 1 + 1, 5, none⟩ = some (.slice none 0 0) := hres.cell 5
  have q5 : v5.frozen? ⟨nb + 1 + 1, 5, none⟩ = false := hres.free 5
  have r6 : v5.cell? ⟨nb + 1 + 1, 6, none⟩ = some (.int .i64 0) := hres.cell 6
  have q6 : v5.frozen? ⟨nb + 1 + 1, 6, none⟩ = false := hres.free 6
  obtain ⟨hK, hO, hB⟩ := td_put2 R4.out Z4.out (resvCode t m) ho5 he5 hb5 _ rfl
  have HK := Lib.hid hK; have HO := Lib.hid hO; have HBb := Lib.hid hB
  clear hK hO hB ho5 he5 hb5 hres
  generalize (resvT t m) = t5 at *
  generalize (([] : List Ev)) = es5 at *
  generalize (resvCode t m) = cd5 at *
  go_wp2_with (fail)
  refine bodyPost_ret_by (results_cell_row rfl _ _ (nb + 1 + 1) 43 (tdC A5 k5 t5 B5 e5 es5 cd5) (0, 0) _ rfl HK.out Tryd.underlying43 rfl size43) rfl ?_
  exact ⟨A5, k5, B5, e5, rfl, HO.out.1, HO.out.2, HBb.out⟩
set_option maxRecDepth 100000 in
set_option maxHeartbeats 4000000 in
theorem refDo_rel (nb : Nat) (A : Option Addr) (c : Nat) (t : Tl) (m : Cm) (w : World) (hnb : nb = w.heap.size) (hl : Rgs w A t.rs) (hm : t.rs.length ≤ 200) (hs : m.ho.size ≤ 1000) (hgb : goodB t = true) (hnm : nameB m.ho = true) (hop1 : ¬ m.op < 8) (hop2 : ¬ 12 < m.op) (h8 : (m.op == 8) = false) (h9 : (m.op == 9) = false) (h12 : (m.op == 12) = false) (k1 : (keyR t.rs m.ho == 0) = false) (q2 : (keyR t.rs m.ho != m.ke) = false) (hrg : regdB t m = true) (h10 : (m.op == 10) = true) :
    Calls Tryd.prog 23 #[tlV A c t, cmV m] w (RdOut nb w (relT t m) (relE t m []) (relCode t m)) := by
  have R0 := Lib.hid (RdS.from w A c t m hl)
  have HM2 := Lib.hid hm
  have HM := Lib.hid (show t.rs.length ≤ maxLen from Nat.le_trans hm (by decide))
  have HMs := Lib.hid (show m.ho.size ≤ maxLen from Nat.le_trans hs (by decide))
  have hnt := not_true
  have hnf := not_false
  clear hl hm hs
  have HRr := Lib.hid hrg
  go_enter Tryd.func23, Tryd.ntmps23
  go_upto_region 1 with (fail)
  change Code.wp _ _ _ _ (((w.alloc (.cells (tlC A c t) 27)).alloc (.cells (cmC m) 37)).alloc (.cells tdZ 43))
  generalize ((w.alloc (.cells (tlC A c t) 27)).alloc (.cells (cmC m) 37)).alloc (.cells tdZ 43) = v0 at *
  rw [← hnb] at R0 ⊢
  clear hnb
  have c0 : v0.cell? ⟨nb, 0, none⟩ = some (.slice A t.rs.length c) := R0.out.box.cell 0
  have c1 : v0.cell? ⟨nb, 1, none⟩ = some (.int .i64 t.ty) := R0.out.box.cell 1
  have c2 : v0.cell? ⟨nb, 2, none⟩ = some (.string t.ho) := R0.out.box.cell 2
  have c3 : v0.cell? ⟨nb, 3, none⟩ = some (.int .u32 t.ge) := R0.out.box.cell 3
  have c4 : v0.cell? ⟨nb, 4, none⟩ = some (.bool t.ap) := R0.out.box.cell 4
  go_wp2_with (fail)
  refine (copy_any A c t _ R0.out.rg (Nat.le_trans HM2.out (by decide))).mono ?_; rintro e v1 ⟨A2, k2, rfl, ho, hb⟩
  have hbox := R0.out.box.below hb R0.out.box.lt
  have e0 : v1.cell? ⟨nb, 0, none⟩ = some (.slice A t.rs.length c) := hbox.cell 0
  have f0 : v1.frozen? ⟨nb, 0, none⟩ = false := hbox.free 0
  have e1 : v1.cell? ⟨nb, 1, none⟩ = some (.int .i64 t.ty) := hbox.cell 1
  have f1 : v1.frozen? ⟨nb, 1, none⟩ = false := hbox.free 1
  have e2 : v1.cell? ⟨nb, 2, none⟩ = some (.string t.ho) := hbox.cell 2
  have f2 : v1.frozen? ⟨nb, 2, none⟩ = false := hbox.free 2
  have e3 : v1.cell? ⟨nb, 3, none⟩ = some (.int .u32 t.ge) := hbox.cell 3
  have f3 : v1.frozen? ⟨nb, 3, none⟩ = false := hbox.free 3
  have e4 : v1.cell? ⟨nb, 4, none⟩ = some (.bool t.ap) := hbox.cell 4
  have f4 : v1.frozen? ⟨nb, 4, none⟩ = false := hbox.free 4
  obtain ⟨rr, oo, zz⟩ := R0.out.copied ho hb _ rfl
  have R2 := Lib.hid rr; have O2 := Lib.hid oo; have Z2 := Lib.hid zz
  clear rr oo zz
  clear c0 c1 c2 c3 c4 hbox ho hb
  go_upto_region 2 with (fail)
  generalize (((((v1.setCell ⟨nb, 0, none⟩ (.slice A2 t.rs.length k2)).setCell ⟨nb, 1, none⟩ (.int .i64 t.ty)).setCell ⟨nb, 2, none⟩ (.string t.ho)).setCell ⟨nb, 3, none⟩ (.int .u32 t.ge)).setCell ⟨nb, 4, none⟩ (.bool t.ap)) = v2 at *
  clear e0 e1 e2 e3 e4 f0 f1 f2 f3 f4 R0
  have c0 : v2.cell? ⟨nb, 0, none⟩ = some (.slice A2 t.rs.length k2) := R2.out.box.cell 0
  have c1 : v2.cell? ⟨nb, 1, none⟩ = some (.int .i64 t.ty) := R2.out.box.cell 1
  have c2 : v2.cell? ⟨nb, 2, none⟩ = some (.string t.ho) := R2.out.box.cell 2
  have c3 : v2.cell? ⟨nb, 3, none⟩ = some (.int .u32 t.ge) := R2.out.box.cell 3
  have c4 : v2.cell? ⟨nb, 4, none⟩ = some (.bool t.ap) := R2.out.box.cell 4
  have HG := Lib.hid (fun u (hu : Rgs u A2 t.rs) => refGood_any A2 k2 t u hu HM.out)
  rw [hgb] at HG
  go_wp2_with (fail)
  refine (HG.out _ R2.out.own.rgs).mono ?_; rintro e v3 ⟨rfl, hb⟩
  have R3 := Lib.hid (R2.out.below hb); have O3 := Lib.hid (O2.out.below hb); have Z3 := Lib.hid (Nat.le_trans Z2.out hb.size)
  clear c0 c1 c2 c3 c4 hb HG R2 O2 Z2
  have m2 : v3.cell? ⟨nb + 1, 2, none⟩ = some (.string m.ho) := R3.out.cmd.cell 2
  have HNm := Lib.hid (fun u => refName_any m.ho u HMs.out)
  rw [hnm] at HNm
  go_wp2_with (fail)
  refine (HNm.out _).mono ?_; rintro e v4 ⟨rfl, rfl⟩
  clear m2
  have m0 : v3.cell? ⟨nb + 1, 0, none⟩ = some (.int .i64 m.op) := R3.out.cmd.cell 0
  have c0 : v3.cell? ⟨nb, 0, none⟩ = some (.slice A2 t.rs.length k2) := R3.out.box.cell 0
  have c1 : v3.cell? ⟨nb, 1, none⟩ = some (.int .i64 t.ty) := R3.out.box.cell 1
  have c2 : v3.cell? ⟨nb, 2, none⟩ = some (.string t.ho) := R3.out.box.cell 2
  have c3 : v3.cell? ⟨nb, 3, none⟩ = some (.int .u32 t.ge) := R3.out.box.cell 3
  have c4 : v3.cell? ⟨nb, 4, none⟩ = some (.bool t.ap) := R3.out.box.cell 4
  have m2 : v3.cell? ⟨nb + 1, 2, none⟩ = some (.string m.ho) := R3.out.cmd.cell 2
  have HKy := Lib.hid (fun u (hu : Rgs u A2 t.rs) => refKey_any A2 k2 t m.ho u hu HM.out)
  go_wp2_with (fail)
  refine (HKy.out _ R3.out.own.rgs).mono ?_; rintro e v4 ⟨rfl, hb⟩
  have R4 := Lib.hid (R3.out.below hb); have O4 := Lib.hid (O3.out.below hb); have Z4 := Lib.hid (Nat.le_trans Z3.out hb.size)
  clear c0 c1 c2 c3 c4 m2 hb HKy R3 O3 Z3
  clear m0
  have m8 : v4.cell? ⟨nb + 1, 8, none⟩ = some (.int .u64 m.ke) := R4.out.cmd.cell 8
  have c0 : v4.cell? ⟨nb, 0, none⟩ = some (.slice A2 t.rs.length k2) := R4.out.box.cell 0
  have c1 : v4.cell? ⟨nb, 1, none⟩ = some (.int .i64 t.ty) := R4.out.box.cell 1
  have c2 : v4.cell? ⟨nb, 2, none⟩ = some (.string t.ho) := R4.out.box.cell 2
  have c3 : v4.cell? ⟨nb, 3, none⟩ = some (.int .u32 t.ge) := R4.out.box.cell 3
  have c4 : v4.cell? ⟨nb, 4, none⟩ = some (.bool t.ap) := R4.out.box.cell 4
  have m0 : v4.cell? ⟨nb + 1, 0, none⟩ = some (.int .i64 m.op) := R4.out.cmd.cell 0
  have m1 : v4.cell? ⟨nb + 1, 1, none⟩ = some (.int .i64 m.lu) := R4.out.cmd.cell 1
  have m2 : v4.cell? ⟨nb + 1, 2, none⟩ = some (.string m.ho) := R4.out.cmd.cell 2
  have m3 : v4.cell? ⟨nb + 1, 3, none⟩ = some (.int .i64 m.lb) := R4.out.cmd.cell 3
  have m4 : v4.cell? ⟨nb + 1, 4, none⟩ = some (.int .i64 m.bl) := R4.out.cmd.cell 4
  have m5 : v4.cell? ⟨nb + 1, 5, none⟩ = some (.string m.da) := R4.out.cmd.cell 5
  have m6 : v4.cell? ⟨nb + 1, 6, none⟩ = some (.bool m.fu) := R4.out.cmd.cell 6
  have m7 : v4.cell? ⟨nb + 1, 7, none⟩ = some (.slice m.rA m.rn m.rc) := R4.out.cmd.cell 7
  have m8 : v4.cell? ⟨nb + 1, 8, none⟩ = some (.int .u64 m.ke) := R4.out.cmd.cell 8
  have m9 : v4.cell? ⟨nb + 1, 9, none⟩ = some (.int .u64 m.nk) := R4.out.cmd.cell 9
  have m10 : v4.cell? ⟨nb + 1, 10, none⟩ = some (.int .u64 m.ot) := R4.out.cmd.cell 10
  have m11 : v4.cell? ⟨nb + 1, 11, none⟩ = some (.int .i64 m.ty) := R4.out.cmd.cell 11
  have m12 : v4.cell? ⟨nb + 1, 12, none⟩ = some (.bool m.ig) := R4.out.cmd.cell 12
  have m13 : v4.cell? ⟨nb + 1, 13, none⟩ = some (.int .i64 m.ap) := R4.out.cmd.cell 13
  go_wp2_with (fail)
  refine (refRel_any (nb + 3) A2 k2 t m _ O4.out Z4.out HM2.out HRr.out).mono ?_; rintro e v5 ⟨A5, k5, B5, e5, rfl, ho5, he5, hb5⟩
  have hres := R4.out.res.below hb5 (by omega)
  clear c0 c1 c2 c3 c4 m0 m1 m2 m3 m4 m5 m6 m7 m8 m9 m10 m11 m12 m13
  have r0 : v5.cell? ⟨nb + 1 + 1, 0, none⟩ = some (.slice none 0 0) := hres.cell 0
  have q0 : v5.frozen? ⟨nb + 1 + 1, 0, none⟩ = false := hres.free 0
  have r1 : v5.cell? ⟨nb + 1 + 1, 1, none⟩ = some (.int .i64 0) := hres.cell 1
  have q1 : v5.frozen? ⟨nb + 1 + 1, 1, none⟩ = false := hres.free 1
  have r2 : v5.cell? ⟨nb + 1 + 1, 2, none⟩ = some (.string ⟨#[]⟩) := hres.cell 2
  have q2 : v5.frozen? ⟨nb + 1 + 1, 2, none⟩ = false := hres.free 2
  have r3 : v5.cell? ⟨nb + 1 + 1, 3, none⟩ = some (.int .u32 0) := hres.cell 3
  have q3 : v5.frozen? ⟨nb + 1 + 1, 3, none⟩ = false := hres.free 3
  have r4 : v5.cell? ⟨nb + 1 + 1, 4, none⟩ = some (.bool false) := hres.cell 4
  have q4 : v5.frozen? ⟨nb + 1 + 1, 4, none⟩ = false := hres.free 4
  have r5 : v5.cell? ⟨nb + 1 + 1, 5, none⟩ = some (.slice none 0 0) := hres.cell 5
  have q5 : v5.frozen? ⟨nb + 1 + 1, 5, none⟩ = false := hres.free 5
  have r6 : v5.cell? ⟨nb + 1 + 1, 6, none⟩ = some (.int .i64 0) := hres.cell 6
  have q6 : v5.frozen? ⟨nb + 1 + 1, 6, none⟩ = false := hres.free 6
  obtain ⟨hK, hO, hB⟩ := td_put2 R4.out Z4.out (relCode t m) ho5 he5 hb5 _ rfl
  have HK := Lib.hid hK; have HO := Lib.hid hO; have HBb := Lib.hid hB
  clear hK hO hB ho5 he5 hb5 hres
  generalize (relT t m) = t5 at *
  generalize (relE t m []) = es5 at *
  generalize (relCode t m) = cd5 at *
  go_wp2_with (fail)
  refine bodyPost_ret_by (results_cell_row rfl _ _ (nb + 1 + 1) 43 (tdC A5 k5 t5 B5 e5 es5 cd5) (0, 0) _ rfl HK.out Tryd.underlying43 rfl size43) rfl ?_
  exact ⟨A5, k5, B5, e5, rfl, HO.out.1, HO.out.2, HBb.out⟩
theorem evs_put4 {nb k : Nat} {v : World} {B : Option Addr} {es : List Ev} {cs : Array Value} {x y z u : Value} (he : OwnE v nb B k es) (hb : Blk v nb 27 cs) : OwnE ((((v.setCell ⟨nb, 0, none⟩ x).setCell ⟨nb, 1, none⟩ y).setCell ⟨nb, 2, none⟩ z).setCell ⟨nb, 3, none⟩ u) nb B k es := by
  have h1 := evs_put (nb := nb) (i := 0) (x := x) he hb
  have b1 := hb.put 0 x
  have h2 := evs_put (nb := nb) (i := 1) (x := y) h1 b1
  have b2 := b1.put 1 y
  have h3 := evs_put (nb := nb) (i := 2) (x := z) h2 b2
  exact evs_put (nb := nb) (i := 3) (x := u) h3 (b2.put 2 z)
set_option maxRecDepth 100000 in
set_option maxHeartbeats 4000000 in
theorem refDo_clear (nb : Nat) (A : Option Addr) (c : Nat) (t : Tl) (m : Cm) (w : World) (hnb : nb = w.heap.size) (hl : Rgs w A t.rs) (hm : t.rs.length ≤ 200) (hs : m.ho.size ≤ 1000) (hgb : goodB t = true) (hnm : nameB m.ho = true) (hop1 : ¬ m.op < 8) (hop2 : ¬ 12 < m.op) (h8 : (m.op == 8) = false) (h9 : (m.op == 9) = false) (h12 : (m.op == 12) = false) (k1 : (keyR t.rs m.ho == 0) = false) (q2 : (keyR t.rs m.ho != m.ke) = false) (h10 : (m.op == 10) = false) (h11 : (m.op == 11) = true) :
    Calls Tryd.prog 23 #[tlV A c t, cmV m] w (RdOut nb w (clrT t) (told 4 (isO m) t.rs) (1)) := by
  have R0 := Lib.hid (RdS.from w A c t m hl)
  have HM2 := Lib.hid hm
  have HM := Lib.hid (show t.rs.length ≤ maxLen from Nat.le_trans hm (by decide))
  have HMs := Lib.hid (show m.ho.size ≤ maxLen from Nat.le_trans hs (by decide))
  have hnt := not_true
  have hnf := not_false
  clear hl hm hs
  go_enter Tryd.func23, Tryd.ntmps23
  go_upto_region 1 with (fail)
  change Code.wp _ _ _ _ (((w.alloc (.cells (tlC A c t) 27)).alloc (.cells (cmC m) 37)).alloc (.cells tdZ 43))
  generalize ((w.alloc (.cells (tlC A c t) 27)).alloc (.cells (cmC m) 37)).alloc (.cells tdZ 43) = v0 at *
  rw [← hnb] at R0 ⊢
  clear hnb
  have c0 : v0.cell? ⟨nb, 0, none⟩ = some (.slice A t.rs.length c) := R0.out.box.cell 0
  have c1 : v0.cell? ⟨nb, 1, none⟩ = some (.int .i64 t.ty) := R0.out.box.cell 1
  have c2 : v0.cell? ⟨nb, 2, none⟩ = some (.string t.ho) := R0.out.box.cell 2
  have c3 : v0.cell? ⟨nb, 3, none⟩ = some (.int .u32 t.ge) := R0.out.box.cell 3
  have c4 : v0.cell? ⟨nb, 4, none⟩ = some (.bool t.ap) := R0.out.box.cell 4
  go_wp2_with (fail)
  refine (copy_any A c t _ R0.out.rg (Nat.le_trans HM2.out (by decide))).mono ?_; rintro e v1 ⟨A2, k2, rfl, ho, hb⟩
  have hbox := R0.out.box.below hb R0.out.box.lt
  have e0 : v1.cell? ⟨nb, 0, none⟩ = some (.slice A t.rs.length c) := hbox.cell 0
  have f0 : v1.frozen? ⟨nb, 0, none⟩ = false := hbox.free 0
  have e1 : v1.cell? ⟨nb, 1, none⟩ = some (.int .i64 t.ty) := hbox.cell 1
  have f1 : v1.frozen? ⟨nb, 1, none⟩ = false := hbox.free 1
  have e2 : v1.cell? ⟨nb, 2, none⟩ = some (.string t.ho) := hbox.cell 2
  have f2 : v1.frozen? ⟨nb, 2, none⟩ = false := hbox.free 2
  have e3 : v1.cell? ⟨nb, 3, none⟩ = some (.int .u32 t.ge) := hbox.cell 3
  have f3 : v1.frozen? ⟨nb, 3, none⟩ = false := hbox.free 3
  have e4 : v1.cell? ⟨nb, 4, none⟩ = some (.bool t.ap) := hbox.cell 4
  have f4 : v1.frozen? ⟨nb, 4, none⟩ = false := hbox.free 4
  obtain ⟨rr, oo, zz⟩ := R0.out.copied ho hb _ rfl
  have R2 := Lib.hid rr; have O2 := Lib.hid oo; have Z2 := Lib.hid zz
  clear rr oo zz
  clear c0 c1 c2 c3 c4 hbox ho hb
  go_upto_region 2 with (fail)
  generalize (((((v1.setCell ⟨nb, 0, none⟩ (.slice A2 t.rs.length k2)).setCell ⟨nb, 1, none⟩ (.int .i64 t.ty)).setCell ⟨nb, 2, none⟩ (.string t.ho)).setCell ⟨nb, 3, none⟩ (.int .u32 t.ge)).setCell ⟨nb, 4, none⟩ (.bool t.ap)) = v2 at *
  clear e0 e1 e2 e3 e4 f0 f1 f2 f3 f4 R0
  have c0 : v2.cell? ⟨nb, 0, none⟩ = some (.slice A2 t.rs.length k2) := R2.out.box.cell 0
  have c1 : v2.cell? ⟨nb, 1, none⟩ = some (.int .i64 t.ty) := R2.out.box.cell 1
  have c2 : v2.cell? ⟨nb, 2, none⟩ = some (.string t.ho) := R2.out.box.cell 2
  have c3 : v2.cell? ⟨nb, 3, none⟩ = some (.int .u32 t.ge) := R2.out.box.cell 3
  have c4 : v2.cell? ⟨nb, 4, none⟩ = some (.bool t.ap) := R2.out.box.cell 4
  have HG := Lib.hid (fun u (hu : Rgs u A2 t.rs) => refGood_any A2 k2 t u hu HM.out)
  rw [hgb] at HG
  go_wp2_with (fail)
  refine (HG.out _ R2.out.own.rgs).mono ?_; rintro e v3 ⟨rfl, hb⟩
  have R3 := Lib.hid (R2.out.below hb); have O3 := Lib.hid (O2.out.below hb); have Z3 := Lib.hid (Nat.le_trans Z2.out hb.size)
  clear c0 c1 c2 c3 c4 hb HG R2 O2 Z2
  have m2 : v3.cell? ⟨nb + 1, 2, none⟩ = some (.string m.ho) := R3.out.cmd.cell 2
  have HNm := Lib.hid (fun u => refName_any m.ho u HMs.out)
  rw [hnm] at HNm
  go_wp2_with (fail)
  refine (HNm.out _).mono ?_; rintro e v4 ⟨rfl, rfl⟩
  clear m2
  have m0 : v3.cell? ⟨nb + 1, 0, none⟩ = some (.int .i64 m.op) := R3.out.cmd.cell 0
  have c0 : v3.cell? ⟨nb, 0, none⟩ = some (.slice A2 t.rs.length k2) := R3.out.box.cell 0
  have c1 : v3.cell? ⟨nb, 1, none⟩ = some (.int .i64 t.ty) := R3.out.box.cell 1
  have c2 : v3.cell? ⟨nb, 2, none⟩ = some (.string t.ho) := R3.out.box.cell 2
  have c3 : v3.cell? ⟨nb, 3, none⟩ = some (.int .u32 t.ge) := R3.out.box.cell 3
  have c4 : v3.cell? ⟨nb, 4, none⟩ = some (.bool t.ap) := R3.out.box.cell 4
  have m2 : v3.cell? ⟨nb + 1, 2, none⟩ = some (.string m.ho) := R3.out.cmd.cell 2
  have HKy := Lib.hid (fun u (hu : Rgs u A2 t.rs) => refKey_any A2 k2 t m.ho u hu HM.out)
  go_wp2_with (fail)
  refine (HKy.out _ R3.out.own.rgs).mono ?_; rintro e v4 ⟨rfl, hb⟩
  have R4 := Lib.hid (R3.out.below hb); have O4 := Lib.hid (O3.out.below hb); have Z4 := Lib.hid (Nat.le_trans Z3.out hb.size)
  clear c0 c1 c2 c3 c4 m2 hb HKy R3 O3 Z3
  clear m0
  have m0 : v4.cell? ⟨nb + 1, 0, none⟩ = some (.int .i64 m.op) := R4.out.cmd.cell 0
  have m2 : v4.cell? ⟨nb + 1, 2, none⟩ = some (.string m.ho) := R4.out.cmd.cell 2
  have m8 : v4.cell? ⟨nb + 1, 8, none⟩ = some (.int .u64 m.ke) := R4.out.cmd.cell 8
  have c0 : v4.cell? ⟨nb, 0, none⟩ = some (.slice A2 t.rs.length k2) := R4.out.box.cell 0
  have c1 : v4.cell? ⟨nb, 1, none⟩ = some (.int .i64 t.ty) := R4.out.box.cell 1
  have c2 : v4.cell? ⟨nb, 2, none⟩ = some (.string t.ho) := R4.out.box.cell 2
  have c3 : v4.cell? ⟨nb, 3, none⟩ = some (.int .u32 t.ge) := R4.out.box.cell 3
  have c4 : v4.cell? ⟨nb, 4, none⟩ = some (.bool t.ap) := R4.out.box.cell 4
  go_wp2_with (fail)
  refine (events_any A2 k2 t.rs m.ho 4 v4 R4.out.own.rgs (Nat.le_trans HM2.out (by decide))).mono ?_; rintro e v5 ⟨B, kk, rfl, he, hb⟩
  have R5 := Lib.hid (R4.out.below hb); have HE := Lib.hid (show OwnE v5 nb B kk (told 4 (isO m) t.rs) from OwnE.base he R4.out.lt)
  have HEq := Lib.hid (show evsOf 4 m.ho t.rs = told 4 (isO m) t.rs from rfl)
  rw [HEq.out]
  clear he hb m0 m2 m8 O4 Z4 R4
  clear c0 c1 c2 c3 c4
  have c0 : v5.cell? ⟨nb, 0, none⟩ = some (.slice A2 t.rs.length k2) := R5.out.box.cell 0
  have c1 : v5.cell? ⟨nb, 1, none⟩ = some (.int .i64 t.ty) := R5.out.box.cell 1
  have c2 : v5.cell? ⟨nb, 2, none⟩ = some (.string t.ho) := R5.out.box.cell 2
  have c3 : v5.cell? ⟨nb, 3, none⟩ = some (.int .u32 t.ge) := R5.out.box.cell 3
  have c4 : v5.cell? ⟨nb, 4, none⟩ = some (.bool t.ap) := R5.out.box.cell 4
  have f0 : v5.frozen? ⟨nb, 0, none⟩ = false := R5.out.box.free 0
  have f1 : v5.frozen? ⟨nb, 1, none⟩ = false := R5.out.box.free 1
  have f2 : v5.frozen? ⟨nb, 2, none⟩ = false := R5.out.box.free 2
  have f3 : v5.frozen? ⟨nb, 3, none⟩ = false := R5.out.box.free 3
  have f4 : v5.frozen? ⟨nb, 4, none⟩ = false := R5.out.box.free 4
  have hig : IntKind.u32.wrap (t.ge + 1) = incG t.ge := rfl
  have R6 := Lib.hid ((((R5.out.rows (.inr (Below.refl _ _)) (Own.nil v5 nb)).put 1 (.int .i64 0) (t' := { t with rs := [], ty := 0 }) rfl rfl).put 2 (.string ⟨#[]⟩) (t' := { t with rs := [], ty := 0, ho := ⟨#[]⟩ }) rfl rfl).put 3 (.int .u32 (incG t.ge)) (t' := clrT t) rfl rfl)
  have HE6 := Lib.hid (evs_put4 (x := .slice none 0 0) (y := .int .i64 0) (z := .string ⟨#[]⟩) (u := .int .u32 (incG t.ge)) HE.out R5.out.box)
  go_upto_region 20 with (fail)
  change Code.wp _ _ _ _ ((((v5.setCell ⟨nb, 0, none⟩ (.slice none 0 0)).setCell ⟨nb, 1, none⟩ (.int .i64 0)).setCell ⟨nb, 2, none⟩ (.string ⟨#[]⟩)).setCell ⟨nb, 3, none⟩ (.int .u32 (incG t.ge)))
  generalize ((((v5.setCell ⟨nb, 0, none⟩ (.slice none 0 0)).setCell ⟨nb, 1, none⟩ (.int .i64 0)).setCell ⟨nb, 2, none⟩ (.string ⟨#[]⟩)).setCell ⟨nb, 3, none⟩ (.int .u32 (incG t.ge))) = v6 at *
  clear c0 c1 c2 c3 c4 f0 f1 f2 f3 f4 hig
  have c0 : v6.cell? ⟨nb, 0, none⟩ = some (.slice none 0 0) := R6.out.box.cell 0
  have c1 : v6.cell? ⟨nb, 1, none⟩ = some (.int .i64 (clrT t).ty) := R6.out.box.cell 1
  have c2 : v6.cell? ⟨nb, 2, none⟩ = some (.string (clrT t).ho) := R6.out.box.cell 2
  have c3 : v6.cell? ⟨nb, 3, none⟩ = some (.int .u32 (clrT t).ge) := R6.out.box.cell 3
  have c4 : v6.cell? ⟨nb, 4, none⟩ = some (.bool (clrT t).ap) := R6.out.box.cell 4
  have r0 : v6.cell? ⟨nb + 1 + 1, 0, none⟩ = some (.slice none 0 0) := R6.out.res.cell 0
  have q0 : v6.frozen? ⟨nb + 1 + 1, 0, none⟩ = false := R6.out.res.free 0
  have r1 : v6.cell? ⟨nb + 1 + 1, 1, none⟩ = some (.int .i64 0) := R6.out.res.cell 1
  have q1 : v6.frozen? ⟨nb + 1 + 1, 1, none⟩ = false := R6.out.res.free 1
  have r2 : v6.cell? ⟨nb + 1 + 1, 2, none⟩ = some (.string ⟨#[]⟩) := R6.out.res.cell 2
  have q2 : v6.frozen? ⟨nb + 1 + 1, 2, none⟩ = false := R6.out.res.free 2
  have r3 : v6.cell? ⟨nb + 1 + 1, 3, none⟩ = some (.int .u32 0) := R6.out.res.cell 3
  have q3 : v6.frozen? ⟨nb + 1 + 1, 3, none⟩ = false := R6.out.res.free 3
  have r4 : v6.cell? ⟨nb + 1 + 1, 4, none⟩ = some (.bool false) := R6.out.res.cell 4
  have q4 : v6.frozen? ⟨nb + 1 + 1, 4, none⟩ = false := R6.out.res.free 4
  have r5 : v6.cell? ⟨nb + 1 + 1, 5, none⟩ = some (.slice none 0 0) := R6.out.res.cell 5
  have q5 : v6.frozen? ⟨nb + 1 + 1, 5, none⟩ = false := R6.out.res.free 5
  have r6 : v6.cell? ⟨nb + 1 + 1, 6, none⟩ = some (.int .i64 0) := R6.out.res.cell 6
  have q6 : v6.frozen? ⟨nb + 1 + 1, 6, none⟩ = false := R6.out.res.free 6
  generalize told 4 (isO m) t.rs = es5 at *
  go_wp2_with (fail)
  obtain ⟨hK, hO, hB⟩ := td_put R6.out HE6.out (1) _ rfl
  refine bodyPost_ret_by (results_cell_row rfl _ _ (nb + 1 + 1) 43 (tdC none 0 (clrT t) B kk (es5) (1)) (0, 0) _ rfl hK Tryd.underlying43 rfl size43) rfl ?_
  exact ⟨none, 0, B, kk, rfl, hO.1, hO.2, hB⟩
open Go.RowKit
set_option maxRecDepth 100000 in
set_option maxHeartbeats 4000000 in
theorem refDo_pre (nb : Nat) (A : Option Addr) (c : Nat) (t : Tl) (m : Cm) (w : World) (hnb : nb = w.heap.size) (hl : Rgs w A t.rs) (hm : t.rs.length ≤ 200) (hs : m.ho.size ≤ 1000) (hgb : goodB t = true) (hnm : nameB m.ho = true) (hop1 : ¬ m.op < 8) (hop2 : ¬ 12 < m.op) (h8 : (m.op == 8) = false) (h9 : (m.op == 9) = false) (h12 : (m.op == 12) = true) (hty : typeB m.ty = true) (k1 : (keyR t.rs m.ho == 0) = false) (q2 : (keyR t.rs m.ho != m.ke) = false) (hrg : regdB t m = true) (h10 : (m.op == 10) = false) (h11 : (m.op == 11) = false) (HPr : ∀ (n0 : Nat) (A : Option Addr) (c : Nat) (t : Tl) (m : Cm) (w : World), Own w n0 A c t.rs → n0 ≤ w.heap.size → t.rs.length ≤ 200 → m.ho.size ≤ maxLen → GoodP t → typeB m.ty = true → regdB t m = true → Calls Tryd.prog 43 #[tlV A c t, cmV m] w (RdOut n0 w (preT t m) (preE t m []) (preCode t m))) :
    Calls Tryd.prog 23 #[tlV A c t, cmV m] w (RdOut nb w (preT t m) (preE t m []) (preCode t m)) := by
  have R0 := Lib.hid (RdS.from w A c t m hl)
  have HM2 := Lib.hid hm
  have HM := Lib.hid (show t.rs.length ≤ maxLen from Nat.le_trans hm (by decide))
  have HMs := Lib.hid (show m.ho.size ≤ maxLen from Nat.le_trans hs (by decide))
  have hnt := not_true
  have hnf := not_false
  clear hl hm hs
  have HTt := Lib.hid hty; have HRr := Lib.hid hrg
  have HGd := Lib.hid (goodB_iff.1 hgb)
  have HPp := Lib.hid HPr
  clear HPr
  go_enter Tryd.func23, Tryd.ntmps23
  go_upto_region 1 with (fail)
  change Code.wp _ _ _ _ (((w.alloc (.cells (tlC A c t) 27)).alloc (.cells (cmC m) 37)).alloc (.cells tdZ 43))
  generalize ((w.alloc (.cells (tlC A c t) 27)).alloc (.cells (cmC m) 37)).alloc (.cells tdZ 43) = v0 at *
  rw [← hnb] at R0 ⊢
  clear hnb
  have c0 : v0.cell? ⟨nb, 0, none⟩ = some (.slice A t.rs.length c) := R0.out.box.cell 0
  have c1 : v0.cell? ⟨nb, 1, none⟩ = some (.int .i64 t.ty) := R0.out.box.cell 1
  have c2 : v0.cell? ⟨nb, 2, none⟩ = some (.string t.ho) := R0.out.box.cell 2
  have c3 : v0.cell? ⟨nb, 3, none⟩ = some (.int .u32 t.ge) := R0.out.box.cell 3
  have c4 : v0.cell? ⟨nb, 4, none⟩ = some (.bool t.ap) := R0.out.box.cell 4
  go_wp2_with (fail)
  refine (copy_any A c t _ R0.out.rg (Nat.le_trans HM2.out (by decide))).mono ?_; rintro e v1 ⟨A2, k2, rfl, ho, hb⟩
  have hbox := R0.out.box.below hb R0.out.box.lt
  have e0 : v1.cell? ⟨nb, 0, none⟩ = some (.slice A t.rs.length c) := hbox.cell 0
  have f0 : v1.frozen? ⟨nb, 0, none⟩ = false := hbox.free 0
  have e1 : v1.cell? ⟨nb, 1, none⟩ = some (.int .i64 t.ty) := hbox.cell 1
  have f1 : v1.frozen? ⟨nb, 1, none⟩ = false := hbox.free 1
  have e2 : v1.cell? ⟨nb, 2, none⟩ = some (.string t.ho) := hbox.cell 2
  have f2 : v1.frozen? ⟨nb, 2, none⟩ = false := hbox.free 2
  have e3 : v1.cell? ⟨nb, 3, none⟩ = some (.int .u32 t.ge) := hbox.cell 3
  have f3 : v1.frozen? ⟨nb, 3, none⟩ = false := hbox.free 3
  have e4 : v1.cell? ⟨nb, 4, none⟩ = some (.bool t.ap) := hbox.cell 4
  have f4 : v1.frozen? ⟨nb, 4, none⟩ = false := hbox.free 4
  obtain ⟨rr, oo, zz⟩ := R0.out.copied ho hb _ rfl
  have R2 := Lib.hid rr; have O2 := Lib.hid oo; have Z2 := Lib.hid zz
  clear rr oo zz
  clear c0 c1 c2 c3 c4 hbox ho hb
  go_upto_region 2 with (fail)
  generalize (((((v1.setCell ⟨nb, 0, none⟩ (.slice A2 t.rs.length k2)).setCell ⟨nb, 1, none⟩ (.int .i64 t.ty)).setCell ⟨nb, 2, none⟩ (.string t.ho)).setCell ⟨nb, 3, none⟩ (.int .u32 t.ge)).setCell ⟨nb, 4, none⟩ (.bool t.ap)) = v2 at *
  clear e0 e1 e2 e3 e4 f0 f1 f2 f3 f4 R0
  have c0 : v2.cell? ⟨nb, 0, none⟩ = some (.slice A2 t.rs.length k2) := R2.out.box.cell 0
  have c1 : v2.cell? ⟨nb, 1, none⟩ = some (.int .i64 t.ty) := R2.out.box.cell 1
  have c2 : v2.cell? ⟨nb, 2, none⟩ = some (.string t.ho) := R2.out.box.cell 2
  have c3 : v2.cell? ⟨nb, 3, none⟩ = some (.int .u32 t.ge) := R2.out.box.cell 3
  have c4 : v2.cell? ⟨nb, 4, none⟩ = some (.bool t.ap) := R2.out.box.cell 4
  have HG := Lib.hid (fun u (hu : Rgs u A2 t.rs) => refGood_any A2 k2 t u hu HM.out)
  rw [hgb] at HG
  go_wp2_with (fail)
  refine (HG.out _ R2.out.own.rgs).mono ?_; rintro e v3 ⟨rfl, hb⟩
  have R3 := Lib.hid (R2.out.below hb); have O3 := Lib.hid (O2.out.below hb); have Z3 := Lib.hid (Nat.le_trans Z2.out hb.size)
  clear c0 c1 c2 c3 c4 hb HG R2 O2 Z2
  have m2 : v3.cell? ⟨nb + 1, 2, none⟩ = some (.string m.ho) := R3.out.cmd.cell 2
  have HNm := Lib.hid (fun u => refName_any m.ho u HMs.out)
  rw [hnm] at HNm
  go_wp2_with (fail)
  refine (HNm.out _).mono ?_; rintro e v4 ⟨rfl, rfl⟩
  clear m2
  have m0 : v3.cell? ⟨nb + 1, 0, none⟩ = some (.int .i64 m.op) := R3.out.cmd.cell 0
  have m11 : v3.cell? ⟨nb + 1, 11, none⟩ = some (.int .i64 m.ty) := R3.out.cmd.cell 11
  have HTy := Lib.hid (fun u => refType_any m.ty u)
  rw [hty] at HTy
  go_wp2_with (fail)
  refine (HTy.out _).mono ?_; rintro e v4 ⟨rfl, rfl⟩
  clear m11 HTy
  have c0 : v3.cell? ⟨nb, 0, none⟩ = some (.slice A2 t.rs.length k2) := R3.out.box.cell 0
  have c1 : v3.cell? ⟨nb, 1, none⟩ = some (.int .i64 t.ty) := R3.out.box.cell 1
  have c2 : v3.cell? ⟨nb, 2, none⟩ = some (.string t.ho) := R3.out.box.cell 2
  have c3 : v3.cell? ⟨nb, 3, none⟩ = some (.int .u32 t.ge) := R3.out.box.cell 3
  have c4 : v3.cell? ⟨nb, 4, none⟩ = some (.bool t.ap) := R3.out.box.cell 4
  have m2 : v3.cell? ⟨nb + 1, 2, none⟩ = some (.string m.ho) := R3.out.cmd.cell 2
  have HKy := Lib.hid (fun u (hu : Rgs u A2 t.rs) => refKey_any A2 k2 t m.ho u hu HM.out)
  go_wp2_with (fail)
  refine (HKy.out _ R3.out.own.rgs).mono ?_; rintro e v4 ⟨rfl, hb⟩
  have R4 := Lib.hid (R3.out.below hb); have O4 := Lib.hid (O3.out.below hb); have Z4 := Lib.hid (Nat.le_trans Z3.out hb.size)
  clear c0 c1 c2 c3 c4 m2 hb HKy R3 O3 Z3
  clear m0
  have m8 : v4.cell? ⟨nb + 1, 8, none⟩ = some (.int .u64 m.ke) := R4.out.cmd.cell 8
  have c0 : v4.cell? ⟨nb, 0, none⟩ = some (.slice A2 t.rs.length k2) := R4.out.box.cell 0
  have c1 : v4.cell? ⟨nb, 1, none⟩ = some (.int .i64 t.ty) := R4.out.box.cell 1
  have c2 : v4.cell? ⟨nb, 2, none⟩ = some (.string t.ho) := R4.out.box.cell 2
  have c3 : v4.cell? ⟨nb, 3, none⟩ = some (.int .u32 t.ge) := R4.out.box.cell 3
  have c4 : v4.cell? ⟨nb, 4, none⟩ = some (.bool t.ap) := R4.out.box.cell 4
  have m0 : v4.cell? ⟨nb + 1, 0, none⟩ = some (.int .i64 m.op) := R4.out.cmd.cell 0
  have m1 : v4.cell? ⟨nb + 1, 1, none⟩ = some (.int .i64 m.lu) := R4.out.cmd.cell 1
  have m2 : v4.cell? ⟨nb + 1, 2, none⟩ = some (.string m.ho) := R4.out.cmd.cell 2
  have m3 : v4.cell? ⟨nb + 1, 3, none⟩ = some (.int .i64 m.lb) := R4.out.cmd.cell 3
  have m4 : v4.cell? ⟨nb + 1, 4, none⟩ = some (.int .i64 m.bl) := R4.out.cmd.cell 4
  have m5 : v4.cell? ⟨nb + 1, 5, none⟩ = some (.string m.da) := R4.out.cmd.cell 5
  have m6 : v4.cell? ⟨nb + 1, 6, none⟩ = some (.bool m.fu) := R4.out.cmd.cell 6
  have m7 : v4.cell? ⟨nb + 1, 7, none⟩ = some (.slice m.rA m.rn m.rc) := R4.out.cmd.cell 7
  have m8 : v4.cell? ⟨nb + 1, 8, none⟩ = some (.int .u64 m.ke) := R4.out.cmd.cell 8
  have m9 : v4.cell? ⟨nb + 1, 9, none⟩ = some (.int .u64 m.nk) := R4.out.cmd.cell 9
  have m10 : v4.cell? ⟨nb + 1, 10, none⟩ = some (.int .u64 m.ot) := R4.out.cmd.cell 10
  have m11 : v4.cell? ⟨nb + 1, 11, none⟩ = some (.int .i64 m.ty) := R4.out.cmd.cell 11
  have m12 : v4.cell? ⟨nb + 1, 12, none⟩ = some (.bool m.ig) := R4.out.cmd.cell 12
  have m13 : v4.cell? ⟨nb + 1, 13, none⟩ = some (.int .i64 m.ap) := R4.out.cmd.cell 13
  go_wp2_with (fail)
  refine (HPp.out (nb + 3) A2 k2 t m _ O4.out Z4.out HM2.out HMs.out HGd.out HTt.out HRr.out).mono ?_; rintro e v5 ⟨A5, k5, B5, e5, rfl, ho5, he5, hb5⟩
  have hres := R4.out.res.below hb5 (by omega)
  clear c0 c1 c2 c3 c4 m0 m1 m2 m3 m4 m5 m6 m7 m8 m9 m10 m11 m12 m13
  have r0 : v5.cell? ⟨nb + 1 + 1, 0, none⟩ = some (.slice none 0 0) := hres.cell 0
  have q0 : v5.frozen? ⟨nb + 1 + 1, 0, none⟩ = false := hres.free 0
  have r1 : v5.cell? ⟨nb + 1 + 1, 1, none⟩ = some (.int .i64 0) := hres.cell 1
  have q1 : v5.frozen? ⟨nb + 1 + 1, 1, none⟩ = false := hres.free 1
  have r2 : v5.cell? ⟨nb + 1 + 1, 2, none⟩ = some (.string ⟨#[]⟩) := hres.cell 2
  have q2 : v5.frozen? ⟨nb + 1 + 1, 2, none⟩ = false := hres.free 2
  have r3 : v5.cell? ⟨nb + 1 + 1, 3, none⟩ = some (.int .u32 0) := hres.cell 3
  have q3 : v5.frozen? ⟨nb + 1 + 1, 3, none⟩ = false := hres.free 3
  have r4 : v5.cell? ⟨nb + 1 + 1, 4, none⟩ = some (.bool false) := hres.cell 4
  have q4 : v5.frozen? ⟨nb + 1 + 1, 4, none⟩ = false := hres.free 4
  have r5 : v5.cell? ⟨nb + 1 + 1, 5, none⟩ = some (.slice none 0 0) := hres.cell 5
  have q5 : v5.frozen? ⟨nb + 1 + 1, 5, none⟩ = false := hres.free 5
  have r6 : v5.cell? ⟨nb + 1 + 1, 6, none⟩ = some (.int .i64 0) := hres.cell 6
  have q6 : v5.frozen? ⟨nb + 1 + 1, 6, none⟩ = false := hres.free 6
  obtain ⟨hK, hO, hB⟩ := td_put2 R4.out Z4.out (preCode t m) ho5 he5 hb5 _ rfl
  have HK := Lib.hid hK; have HO := Lib.hid hO; have HBb := Lib.hid hB
  clear hK hO hB ho5 he5 hb5 hres
  generalize (preT t m) = t5 at *
  generalize (preE t m []) = es5 at *
  generalize (preCode t m) = cd5 at *
  go_wp2_with (fail)
  refine bodyPost_ret_by (results_cell_row rfl _ _ (nb + 1 + 1) 43 (tdC A5 k5 t5 B5 e5 es5 cd5) (0, 0) _ rfl HK.out Tryd.underlying43 rfl size43) rfl ?_
  exact ⟨A5, k5, B5, e5, rfl, HO.out.1, HO.out.2, HBb.out⟩
theorem refDo_any (nb : Nat) (A : Option Addr) (c : Nat) (t : Tl) (m : Cm) (w : World) (hnb : nb = w.heap.size) (hl : Rgs w A t.rs) (hm : t.rs.length ≤ 200) (hs : m.ho.size ≤ 1000) (HPr : ∀ (n0 : Nat) (A : Option Addr) (c : Nat) (t : Tl) (m : Cm) (w : World), Own w n0 A c t.rs → n0 ≤ w.heap.size → t.rs.length ≤ 200 → m.ho.size ≤ maxLen → GoodP t → typeB m.ty = true → regdB t m = true → Calls Tryd.prog 43 #[tlV A c t, cmV m] w (RdOut n0 w (preT t m) (preE t m []) (preCode t m))) :
    Calls Tryd.prog 23 #[tlV A c t, cmV m] w (RdOut nb w (doT t m) (doE t m) (doC t m)) := by
  unfold doT doE doC
  cases hg : doG t m with
  | false =>
    simp only [Bool.false_eq_true, if_false]
    unfold doG at hg
    cases hgb : goodB t with
    | false => exact refDo_bad nb A c t m w hnb hl hm hs hgb
    | true =>
      cases hnm : nameB m.ho with
      | false => exact refDo_name nb A c t m w hnb hl hm hs hgb hnm
      | true =>
        rw [hgb, hnm, Bool.and_true, Bool.and_true] at hg
        have h := of_decide_eq_false hg
        by_cases h1 : m.op < 8
        · exact refDo_low nb A c t m w hnb hl hm hs hgb hnm h1
        · exact refDo_high nb A c t m w hnb hl hm hs hgb hnm h1 (by omega)
  | true =>
    obtain ⟨⟨o1, o2⟩, hgt, hnm⟩ := doG_iff.1 hg
    have hgb := goodB_iff.2 hgt
    have p1 : ¬ m.op < 8 := by omega
    have p2 : ¬ 12 < m.op := by omega
    simp only [if_true]
    by_cases e8 : m.op = 8
    · rw [if_pos e8, if_pos e8, if_pos e8]
      exact refDo_reg nb A c t m w hnb hl hm hs hgb hnm p1 p2 (by rw [e8]; rfl)
    · have h8 : (m.op == 8) = false := by simpa using e8
      rw [if_neg e8, if_neg e8, if_neg e8]
      have hcon : ∀ (a b : Tl → Cm → Bool), regdB t m = false → (keyR t.rs m.ho == 0) = true ∨ ((keyR t.rs m.ho == 0) = false ∧ (keyR t.rs m.ho != m.ke) = true) := by
        intro _ _ hr
        cases k1 : (keyR t.rs m.ho == 0) with
        | true => exact .inl rfl
        | false =>
          refine .inr ⟨rfl, ?_⟩
          cases k2 : (keyR t.rs m.ho != m.ke) with
          | true => rfl
          | false =>
            have a1 : ¬ keyR t.rs m.ho = 0 := by simpa using k1
            have a2 : keyR t.rs m.ho = m.ke := by simpa using k2
            rw [regd_iff.2 ⟨by rw [← a2]; exact a1, a2.symm⟩] at hr
            cases hr
      have hcon := hcon (fun _ _ => true) (fun _ _ => true)
      have hok : regdB t m = true → (keyR t.rs m.ho == 0) = false ∧ (keyR t.rs m.ho != m.ke) = false := fun hr => by
        obtain ⟨a1, a2⟩ := regd_iff.1 hr
        refine ⟨?_, ?_⟩
        · rw [← a2]; simpa using a1
        · rw [← a2]; simp
      by_cases e9 : m.op = 9
      · have h9 : (m.op == 9) = true := by rw [e9]; rfl
        rw [if_pos e9, if_pos e9, if_pos e9]
        cases hty : typeB m.ty with
        | false =>
          have q : resvT t m = t ∧ resvCode t m = 5 := by unfold resvT resvCode; rw [hty]; exact ⟨rfl, rfl⟩
          rw [q.1, q.2]
          exact refDo_t9 nb A c t m w hnb hl hm hs hgb hnm p1 p2 h8 h9 hty
        | true =>
          cases hr : regdB t m with
          | false =>
            have q : resvT t m = t ∧ resvCode t m = 2 := by unfold resvT resvCode; rw [hty, hr]; exact ⟨rfl, rfl⟩
            rw [q.1, q.2]
            rcases hcon hr with k1 | ⟨k1, k2⟩
            · exact refDo_c9a nb A c t m w hnb hl hm hs hgb hnm p1 p2 h8 h9 hty k1
            · exact refDo_c9b nb A c t m w hnb hl hm hs hgb hnm p1 p2 h8 h9 hty k1 k2
          | true => exact refDo_resv nb A c t m w hnb hl hm hs hgb hnm p1 p2 h8 h9 hty (hok hr).1 (hok hr).2 hr
      · have h9 : (m.op == 9) = false := by simpa using e9
        rw [if_neg e9, if_neg e9, if_neg e9]
        by_cases e12 : m.op = 12
        · have h12 : (m.op == 12) = true := by rw [e12]; rfl
          have e10 : ¬ m.op = 10 := by omega
          have e11 : ¬ m.op = 11 := by omega
          rw [if_neg e10, if_neg e10, if_neg e10, if_neg e11, if_neg e11, if_neg e11]
          cases hty : typeB m.ty with
          | false =>
            have q0 : preCode t m = 5 := by unfold preCode; rw [hty]; rfl
            have q : preT t m = t ∧ preE t m [] = [] := by unfold preT preE; rw [q0]; exact ⟨rfl, rfl⟩
            rw [q.1, q.2, q0]
            exact refDo_t12 nb A c t m w hnb hl hm hs hgb hnm p1 p2 h8 h9 h12 hty
          | true =>
            cases hr : regdB t m with
            | false =>
              have q0 : preCode t m = 2 := by unfold preCode; rw [hty, hr]; rfl
              have q : preT t m = t ∧ preE t m [] = [] := by unfold preT preE; rw [q0]; exact ⟨rfl, rfl⟩
              rw [q.1, q.2, q0]
              rcases hcon hr with k1 | ⟨k1, k2⟩
              · exact refDo_c12a nb A c t m w hnb hl hm hs hgb hnm p1 p2 h8 h9 h12 hty k1
              · exact refDo_c12b nb A c t m w hnb hl hm hs hgb hnm p1 p2 h8 h9 h12 hty k1 k2
            | true => exact refDo_pre nb A c t m w hnb hl hm hs hgb hnm p1 p2 h8 h9 h12 hty (hok hr).1 (hok hr).2 hr (by simpa using e10) (by simpa using e11) HPr
        · have h12 : (m.op == 12) = false := by simpa using e12
          by_cases e10 : m.op = 10
          · rw [if_pos e10, if_pos e10, if_pos e10]
            cases hr : regdB t m with
            | false =>
              have q : relT t m = t ∧ relE t m [] = [] ∧ relCode t m = 2 := by unfold relT relE relCode relB; rw [hr]; exact ⟨rfl, rfl, rfl⟩
              rw [q.1, q.2.1, q.2.2]
              rcases hcon hr with k1 | ⟨k1, k2⟩
              · exact refDo_cna nb A c t m w hnb hl hm hs hgb hnm p1 p2 h8 h9 h12 k1
              · exact refDo_cnb nb A c t m w hnb hl hm hs hgb hnm p1 p2 h8 h9 h12 k1 k2
            | true => exact refDo_rel nb A c t m w hnb hl hm hs hgb hnm p1 p2 h8 h9 h12 (hok hr).1 (hok hr).2 hr (by rw [e10]; rfl)
          · have e11 : m.op = 11 := by omega
            rw [if_neg e10, if_neg e10, if_neg e10, if_pos e11, if_pos e11, if_pos e11]
            cases hr : regdB t m with
            | false =>
              have q : clearT t m = t ∧ clearE t m [] = [] ∧ clearCode t m = 2 := by unfold clearT clearE clearCode; rw [hr]; exact ⟨rfl, rfl, rfl⟩
              rw [q.1, q.2.1, q.2.2]
              rcases hcon hr with k1 | ⟨k1, k2⟩
              · exact refDo_cna nb A c t m w hnb hl hm hs hgb hnm p1 p2 h8 h9 h12 k1
              · exact refDo_cnb nb A c t m w hnb hl hm hs hgb hnm p1 p2 h8 h9 h12 k1 k2
            | true =>
              have q : clearT t m = clrT t ∧ clearE t m [] = told 4 (isO m) t.rs ∧ clearCode t m = 1 := by unfold clearT clearE clearCode; rw [hr]; exact ⟨rfl, rfl, rfl⟩
              rw [q.1, q.2.1, q.2.2]
              exact refDo_clear nb A c t m w hnb hl hm hs hgb hnm p1 p2 h8 h9 h12 (hok hr).1 (hok hr).2 (by simpa using e10) (by rw [e11]; rfl)
open Go.RowKit
theorem evs_all (q : Rg → Bool) {l : List Rg} (hn : ∀ x ∈ l, nameB x.h = true) : evsOf 2 ⟨#[]⟩ (l.filter q) = told 2 q l := by
  unfold evsOf told
  congr 1
  refine List.filter_eq_self.2 fun x hx => ?_
  have hne := name_ne (hn x (List.mem_filter.1 hx).1)
  cases e : eqS x.h ⟨#[]⟩ with
  | false => rfl
  | true => exact absurd (eqS_iff.1 e) hne
theorem any_len (q : Rg → Bool) (l : List Rg) : l.any q = !(((l.filter q).length : Int) == 0) := by
  cases e : l.any q with
  | false =>
    have h : l.filter q = [] := List.filter_eq_nil_iff.2 (fun x hx => by simpa using List.any_eq_false.1 e x hx)
    rw [h]; rfl
  | true =>
    obtain ⟨x, hx, hq⟩ := List.any_eq_true.1 e
    have h : 0 < (l.filter q).length := List.length_pos_of_mem (List.mem_filter.2 ⟨hx, hq⟩)
    have h2 : ((l.filter q).length : Int) ≠ 0 := by omega
    rw [beq_eq_false_iff_ne.2 h2]; rfl
theorem pre_row {t : Tl} {m : Cm} (hty : typeB m.ty = true) (hrg : regdB t m = true) : preCode t m = if takesB t m = true then 1 else if m.ot = 0 then 5 else if t.rs.any (isR t m) = true then 1 else 2 := by
  unfold preCode
  rw [hty, hrg, if_neg (by decide), if_neg (by decide)]
theorem pre_done {t : Tl} {m : Cm} (al tk : Bool) (hg : GoodP t) (hal : allB t m = al) (htk : takesB t m = tk) (hc : preCode t m = 1) : preT t m = (if tk = true then holdT { t with rs := t.rs.filter (fun r => !strB al m r), ge := incG t.ge } m else { t with rs := t.rs.filter (fun r => !strB al m r), ge := incG t.ge }) ∧ preE t m [] = evsOf 2 ⟨#[]⟩ (t.rs.filter (strB al m)) := by
  subst hal htk
  rw [evs_all _ hg.nm, str_isR]
  unfold preT preE
  rw [if_pos hc, if_pos hc]
  exact ⟨rfl, List.nil_append _⟩
theorem pre_not {t : Tl} {m : Cm} (hc : preCode t m ≠ 1) : preT t m = t ∧ preE t m [] = [] := by
  unfold preT preE
  rw [if_neg hc, if_neg hc]
  exact ⟨rfl, rfl⟩
/-- .. preempt. -/
theorem refPre_any (n0 : Nat) (A : Option Addr) (c : Nat) (t : Tl) (m : Cm) (w : World) (ho : Own w n0 A c t.rs) (hn : n0 ≤ w.heap.size) (hm : t.rs.length ≤ 200) (_hs : m.ho.size ≤ maxLen) (hg : GoodP t) (hty : typeB m.ty = true) (hrg : regdB t m = true) :
    Calls Tryd.prog 43 #[tlV A c t, cmV m] w (RdOut n0 w (preT t m) (preE t m []) (preCode t m)) := by
  have hr := pre_row hty hrg
  have fin : ∀ al tk, allB t m = al → takesB t m = tk → preCode t m = 1 → Calls Tryd.prog 43 #[tlV A c t, cmV m] w (RdOut n0 w (if tk = true then holdT { t with rs := t.rs.filter (fun r => !strB al m r), ge := incG t.ge } m else { t with rs := t.rs.filter (fun r => !strB al m r), ge := incG t.ge }) (evsOf 2 ⟨#[]⟩ (t.rs.filter (strB al m))) 1) → Calls Tryd.prog 43 #[tlV A c t, cmV m] w (RdOut n0 w (preT t m) (preE t m []) (preCode t m)) := by
    intro al tk h1 h2 h3 h4
    obtain ⟨a, b⟩ := pre_done al tk hg h1 h2 h3
    rw [a, b, h3]; exact h4
  have non : ∀ cd : Int, preCode t m = cd → cd ≠ 1 → Calls Tryd.prog 43 #[tlV A c t, cmV m] w (RdOut n0 w t [] cd) → Calls Tryd.prog 43 #[tlV A c t, cmV m] w (RdOut n0 w (preT t m) (preE t m []) (preCode t m)) := by
    intro cd h1 h2 h3
    obtain ⟨a, b⟩ := pre_not (t := t) (m := m) (by rw [h1]; exact h2)
    rw [a, b, h1]; exact h3
  have hany := any_len (isR t m) t.rs
  rcases hg.hold with ⟨h0, _⟩ | ⟨h56, _, _⟩ | ⟨h14, hreg⟩
  · have h5 : ¬ (4 : Int) < t.ty := by omega
    have hsh : shB t.ty = false := decide_eq_false (by omega)
    have halo : aloB t.ty = false := decide_eq_false (by omega)
    have hal : allB t m = false := by unfold allB; rw [hsh, Bool.and_false]
    have htk : takesB t m = false := by unfold takesB; rw [if_pos h0]
    rw [htk, if_neg (by decide)] at hr
    rw [← str_isR, hal] at hr hany
    cases z0 : (m.ot == 0) with
    | true =>
      rw [if_pos (by simpa using z0)] at hr
      exact non 5 hr (by decide) (refPre_wz n0 A c t m w ho hn hm hty h5 halo z0)
    | false =>
      rw [if_neg (by simpa using z0), hany] at hr
      cases eU : (((t.rs.filter (strB false m)).length : Int) == 0) with
      | true => rw [eU] at hr; exact non 2 hr (by decide) (refPre_cz n0 A c t m w ho hn hm hty h5 halo z0 eU)
      | false => rw [eU] at hr; exact fin false false hal htk hr (refPre_dz1 n0 A c t m w ho hn hm hty h5 halo z0 eU)
  · have h5 : (4 : Int) < t.ty := by omega
    have hsh : shB t.ty = true := decide_eq_true h56
    have halo : aloB t.ty = false := decide_eq_false (by omega)
    have h0 : ¬ t.ty = 0 := by omega
    cases z0 : (m.ot == 0) with
    | true =>
      have z1 : m.ot = 0 := by simpa using z0
      have hal : allB t m = true := by unfold allB; rw [hsh, decide_eq_true z1]; rfl
      have htk : takesB t m = true := by unfold takesB; rw [if_neg h0, if_pos hsh]; exact decide_eq_true z1
      rw [if_pos htk] at hr
      cases eU : (((t.rs.filter (strB true m)).length : Int) == 0) with
      | true => exact fin true true hal htk hr (refPre_da0 n0 A c t m w ho hn hm hty h5 z0 eU)
      | false => exact fin true true hal htk hr (refPre_da1 n0 A c t m w ho hn hm hty h5 z0 eU)
    | false =>
      have z1 : ¬ m.ot = 0 := by simpa using z0
      have hal : allB t m = false := by unfold allB; rw [decide_eq_false z1]; rfl
      have htk : takesB t m = false := by unfold takesB; rw [if_neg h0, if_pos hsh]; exact decide_eq_false z1
      rw [htk, if_neg (by decide), if_neg z1] at hr
      rw [← str_isR, hal] at hr hany
      rw [hany] at hr
      cases eU : (((t.rs.filter (strB false m)).length : Int) == 0) with
      | true => rw [eU] at hr; exact non 2 hr (by decide) (refPre_cb n0 A c t m w ho hn hm hty h5 z0 halo eU)
      | false => rw [eU] at hr; exact fin false false hal htk hr (refPre_db1 n0 A c t m w ho hn hm hty h5 z0 halo eU)
  · have h5 : ¬ (4 : Int) < t.ty := by omega
    have hsh : shB t.ty = false := decide_eq_false (by omega)
    have halo : aloB t.ty = true := decide_eq_true h14
    have h0 : ¬ t.ty = 0 := by omega
    have hal : allB t m = false := by unfold allB; rw [hsh, Bool.and_false]
    have hkp := (keyR_pos hg.toRegsP).2 hreg
    cases hkq : (keyR t.rs t.ho == m.ot) with
    | true =>
      have k1 : keyR t.rs t.ho = m.ot := by simpa using hkq
      have z0 : (m.ot == 0) = false := beq_eq_false_iff_ne.2 (by rw [← k1]; exact hkp)
      have htk : takesB t m = true := by unfold takesB; rw [if_neg h0, if_neg (by rw [hsh]; decide)]; exact decide_eq_true k1
      rw [if_pos htk] at hr
      cases eU : (((t.rs.filter (strB false m)).length : Int) == 0) with
      | true => exact fin false true hal htk hr (refPre_dy0 n0 A c t m w ho hn hm hty h5 halo hkq z0 eU)
      | false => exact fin false true hal htk hr (refPre_dy1 n0 A c t m w ho hn hm hty h5 halo hkq z0 eU)
    | false =>
      have k1 : ¬ keyR t.rs t.ho = m.ot := by simpa using hkq
      have htk : takesB t m = false := by unfold takesB; rw [if_neg h0, if_neg (by rw [hsh]; decide)]; exact decide_eq_false k1
      rw [htk, if_neg (by decide)] at hr
      rw [← str_isR, hal] at hr hany
      cases z0 : (m.ot == 0) with
      | true =>
        rw [if_pos (by simpa using z0)] at hr
        exact non 5 hr (by decide) (refPre_wn n0 A c t m w ho hn hm hty h5 halo hkq z0)
      | false =>
        rw [if_neg (by simpa using z0), hany] at hr
        cases eU : (((t.rs.filter (strB false m)).length : Int) == 0) with
        | true => rw [eU] at hr; exact non 2 hr (by decide) (refPre_cn n0 A c t m w ho hn hm hty h5 halo hkq z0 eU)
        | false => rw [eU] at hr; exact fin false false hal htk hr (refPre_dn1 n0 A c t m w ho hn hm hty h5 halo hkq z0 eU)
/-- The document's Do, whole. -/
theorem refDo_all (nb : Nat) (A : Option Addr) (c : Nat) (t : Tl) (m : Cm) (w : World) (hnb : nb = w.heap.size) (hl : Rgs w A t.rs) (hm : t.rs.length ≤ 200) (hs : m.ho.size ≤ 1000) :
    Calls Tryd.prog 23 #[tlV A c t, cmV m] w (RdOut nb w (doT t m) (doE t m) (doC t m)) :=
  refDo_any nb A c t m w hnb hl hm hs refPre_any
open Go.RowKit
set_option maxRecDepth 100000 in
set_option maxHeartbeats 2000000 in
theorem events_same (A1 A2 : Option Addr) (c1 c2 : Nat) (l : List Ev) (w : World) (h1 : Evs w A1 l) (h2 : Evs w A2 l) (hl : l.length ≤ 100000) :
    Calls Tryd.prog 24 #[.slice A1 l.length c1, .slice A2 l.length c2] w fun e w' => e = .returned (.bool true) ∧ Below w.heap.size w w' := by
  have H1 := Lib.hid h1; have H2 := Lib.hid h2; clear h1 h2
  go_enter Tryd.func24, Tryd.ntmps24
  go_wp2_with (fail)
  go_loopw [5] (fun i wr => ∃ k : Nat, i = .int .i64 k ∧ k ≤ l.length ∧ Below w.heap.size w wr) (fun i _ => l.length - (intOf i).toNat)
  case atStart => exact ⟨0, rfl, Nat.zero_le _, Below.refl _ _⟩
  case round =>
    obtain ⟨k, rfl, hk, hb⟩ := hrel
    have HB := Lib.hid hb; clear hb
    by_cases hlt : k < l.length
    · have hki : (k : Int) < l.length := by omega
      obtain ⟨b1, o1, x1, rfl, hat1, d1, d2⟩ := (H1.out.below HB.out).at_ hlt
      obtain ⟨b2, o2, x2, rfl, hat2, d4, d5⟩ := (H2.out.below HB.out).at_ hlt
      obtain rfl : x1 = x2 := by rw [hat1] at hat2; exact Option.some.inj hat2
      clear hat1 hat2
      have n1 : (x1.h.toList != x1.h.toList) = false := by simp
      have n2 : (x1.y != x1.y) = false := by simp
      go_upto_region 6 with (fail)
      go_quiet (fail)
      go_wp2_with (fail)
      go_roundw
      case rel => exact ⟨k + 1, by go_num, by omega, below_drewN HB.out _⟩
      case measure => simp [intOf]; omega
    · obtain rfl : k = l.length := by omega
      go_wp2
      go_ret
      exact ⟨rfl, HB.out⟩
open Go.RowKit
structure KpM (t : Tl) (m : Cm) (u : Tl) (ev : List Ev) (cd : Int) : Prop where
  t1 : doT t m = u
  e1 : doE t m = ev
  c1 : doC t m = cd
  told : ∀ x ∈ ev, eqS x.h m.ho = false ∧ keyR t.rs x.h ≠ 0
  no : cd ≠ 1 → u = t ∧ ev = []
  yes : cd = 1 → goodB t = true ∧ goodB u = true
  gen : (u.ge == t.ge) = true ∨ ((u.ge == t.ge) = false ∧ u.ge = incG t.ge)
  ln : ev.length ≤ 1000
theorem told_len {t : Tl} {m : Cm} : (doE t m).length ≤ t.rs.length := by
  have a : ∀ (y : Int) (q : Rg → Bool) (l : List Rg), (told y q l).length ≤ l.length := told_length
  have b := (outR_sub t.rs m.ho).length_le
  unfold doE
  split
  · split
    · unfold regE
      split
      · exact Nat.zero_le _
      · split
        · unfold unregE endE
          split
          · split
            · exact Nat.zero_le _
            · rw [List.nil_append]; exact Nat.le_trans (a ..) b
          · exact Nat.zero_le _
        · exact Nat.zero_le _
    split
    · exact Nat.zero_le _
    split
    · unfold relE endE
      split
      · split
        · exact Nat.zero_le _
        · rw [List.nil_append]; exact a ..
      · exact Nat.zero_le _
    split
    · unfold clearE
      split
      · rw [List.nil_append]; exact a ..
      · exact Nat.zero_le _
    · unfold preE
      split
      · rw [List.nil_append]; exact a ..
      · exact Nat.zero_le _
  · exact Nat.zero_le _
theorem kpMath {t : Tl} {m : Cm} (hN : Small t) : ∃ u ev cd, KpM t m u ev cd := by
  refine ⟨_, _, _, ⟨rfl, rfl, rfl, fun x hx => ?_, fun hc => do_not hc, fun hc => ?_, ?_, Nat.le_trans told_len (Nat.le_trans hN.1 (by decide))⟩⟩
  · obtain ⟨h1, h2, h3⟩ := do_told hx
    exact ⟨eqS_no.2 h2, (keyR_pos h1.toRegsP).2 h3⟩
  · have hd := doG_iff.1 (do_yes hc)
    exact ⟨goodB_iff.2 hd.2.1, goodB_iff.2 (do_good hd.2.1)⟩
  · cases hq : ((doT t m).ge == t.ge) with
    | true => exact .inl rfl
    | false =>
      refine .inr ⟨rfl, ?_⟩
      rcases do_gen t m with h | h
      · rw [h] at hq; simp at hq
      · exact h
/-- A table's and a command's boxes along the calls of a statement. -/
structure KxAt (w v : World) (A : Option Addr) (c : Nat) (t : Tl) (pm : Nat) (m : Cm) : Prop extends BxAt w v A c t where
  cm : Blk v pm 37 (cmC m)
theorem KxAt.below {w v v' : World} {A : Option Addr} {c : Nat} {t : Tl} {pm : Nat} {m : Cm} (h : KxAt w v A c t pm m) (hb : Below v.heap.size v v') : KxAt w v' A c t pm m :=
  ⟨h.toBxAt.below hb, h.cm.below hb h.cm.lt⟩
end Go.Proofs.YtgekadfkokkapaaDoor
