/- What every change makes of every table: the statement. -/
import Derived.Test.YtgekadfkokkapaaDoorPk31
import Derived.Test.YtgekadfkokkapaaDoorPk33
namespace Go.Proofs.YtgekadfkokkapaaDoor
open Go.RowKit
set_option maxRecDepth 100000 in
set_option maxHeartbeats 16000000 in
theorem does_any (A : Option Addr) (c : Nat) (t : Tl) (m : Cm) (w : World) (hl : Rgs w A t.rs) (hm : t.rs.length ≤ maxLen) (ht : RTab w) :
    Calls Tryd.prog 4 #[tlV A c t, cmV m] w fun e w' => e = .returned (.bool true) ∧ Below w.heap.size w w' := by
  have GB := Lib.hid (BxAt.from w A c t hl ht)
  have HM := Lib.hid hm
  have hnt := not_true
  have hnf := not_false
  clear hl hm ht
  go_enter Tryd.func4, Tryd.ntmps4
  go_upto_region 1 with (fail)
  change Code.wp _ _ _ _ ((w.alloc (.cells (tlC A c t) 27)).alloc (.cells (cmC m) 37))
  have hsz : (w.alloc (.cells (tlC A c t) 27)).heap.size = w.heap.size + 1 := by simp
  have hal := (Below.refl (w.alloc (.cells (tlC A c t) 27)).heap.size (w.alloc (.cells (tlC A c t) 27))).alloc (Nat.le_refl _) (.cells (cmC m) 37)
  have G0 := Lib.hid (KxAt.mk (pm := w.heap.size + 1) (GB.out.below hal) (by have := Blk.new (w.alloc (.cells (tlC A c t) 27)) 37 (cmC m); rw [hsz] at this; exact this))
  clear hal GB hsz
  obtain ⟨pm, hpm⟩ : ∃ pm, pm = w.heap.size + 1 := ⟨_, rfl⟩
  rw [← hpm] at G0 ⊢
  clear hpm
  generalize (w.alloc (.cells (tlC A c t) 27)).alloc (.cells (cmC m) 37) = v0 at *
  have c0 : v0.cell? ⟨w.heap.size, 0, none⟩ = some (.slice A t.rs.length c) := G0.out.b.cell 0
  have c1 : v0.cell? ⟨w.heap.size, 1, none⟩ = some (.int .i64 t.ty) := G0.out.b.cell 1
  have c2 : v0.cell? ⟨w.heap.size, 2, none⟩ = some (.string t.ho) := G0.out.b.cell 2
  have c3 : v0.cell? ⟨w.heap.size, 3, none⟩ = some (.int .u32 t.ge) := G0.out.b.cell 3
  have c4 : v0.cell? ⟨w.heap.size, 4, none⟩ = some (.bool t.ap) := G0.out.b.cell 4
  go_wp2_with (fail)
  refine (largeX_any A c t _ G0.out.l HM.out).mono ?_; rintro e v1 ⟨r, rfl, hr, hb⟩
  have G1 := Lib.hid (G0.out.below hb)
  have HR := Lib.hid hr; clear hr
  clear hb c0 c1 c2 c3 c4
  cases r with
  | true =>
    go_wp2_with (fail)
    refine (wakes_any v1 G1.out.tb).mono ?_; rintro e v2 ⟨rfl, hb⟩
    have G2 := Lib.hid (G1.out.below hb); clear hb
    go_wp2_with (fail)
    go_ret
    exact ⟨rfl, G2.out.bel⟩
  | false =>
    have HN := Lib.hid (HR.out rfl)
    clear HR
    have HLC := Lib.hid (largeC_any m v1)
    cases hlc : decide (1000 < m.ho.size) with
    | true =>
      rw [hlc] at HLC
      clear hlc
      have m0 : v1.cell? ⟨pm, 0, none⟩ = some (.int .i64 m.op) := G1.out.cm.cell 0
      have m1 : v1.cell? ⟨pm, 1, none⟩ = some (.int .i64 m.lu) := G1.out.cm.cell 1
      have m2 : v1.cell? ⟨pm, 2, none⟩ = some (.string m.ho) := G1.out.cm.cell 2
      have m3 : v1.cell? ⟨pm, 3, none⟩ = some (.int .i64 m.lb) := G1.out.cm.cell 3
      have m4 : v1.cell? ⟨pm, 4, none⟩ = some (.int .i64 m.bl) := G1.out.cm.cell 4
      have m5 : v1.cell? ⟨pm, 5, none⟩ = some (.string m.da) := G1.out.cm.cell 5
      have m6 : v1.cell? ⟨pm, 6, none⟩ = some (.bool m.fu) := G1.out.cm.cell 6
      have m7 : v1.cell? ⟨pm, 7, none⟩ = some (.slice m.rA m.rn m.rc) := G1.out.cm.cell 7
      have m8 : v1.cell? ⟨pm, 8, none⟩ = some (.int .u64 m.ke) := G1.out.cm.cell 8
      have m9 : v1.cell? ⟨pm, 9, none⟩ = some (.int .u64 m.nk) := G1.out.cm.cell 9
      have m10 : v1.cell? ⟨pm, 10, none⟩ = some (.int .u64 m.ot) := G1.out.cm.cell 10
      have m11 : v1.cell? ⟨pm, 11, none⟩ = some (.int .i64 m.ty) := G1.out.cm.cell 11
      have m12 : v1.cell? ⟨pm, 12, none⟩ = some (.bool m.ig) := G1.out.cm.cell 12
      have m13 : v1.cell? ⟨pm, 13, none⟩ = some (.int .i64 m.ap) := G1.out.cm.cell 13
      go_wp2_with (fail)
      refine HLC.out.mono ?_; rintro e v2 ⟨rfl, hb⟩
      have G2 := Lib.hid (G1.out.below hb)
      clear hb m0 m1 m2 m3 m4 m5 m6 m7 m8 m9 m10 m11 m12 m13
      go_wp2_with (fail)
      refine (wakes_any v2 G2.out.tb).mono ?_; rintro e v3 ⟨rfl, hb⟩
      have G3 := Lib.hid (G2.out.below hb); clear hb
      go_wp2_with (fail)
      go_ret
      exact ⟨rfl, G3.out.bel⟩
    | false =>
      rw [hlc] at HLC
      have HSM := Lib.hid (Nat.le_of_not_lt (of_decide_eq_false hlc))
      clear hlc
      have m0 : v1.cell? ⟨pm, 0, none⟩ = some (.int .i64 m.op) := G1.out.cm.cell 0
      have m1 : v1.cell? ⟨pm, 1, none⟩ = some (.int .i64 m.lu) := G1.out.cm.cell 1
      have m2 : v1.cell? ⟨pm, 2, none⟩ = some (.string m.ho) := G1.out.cm.cell 2
      have m3 : v1.cell? ⟨pm, 3, none⟩ = some (.int .i64 m.lb) := G1.out.cm.cell 3
      have m4 : v1.cell? ⟨pm, 4, none⟩ = some (.int .i64 m.bl) := G1.out.cm.cell 4
      have m5 : v1.cell? ⟨pm, 5, none⟩ = some (.string m.da) := G1.out.cm.cell 5
      have m6 : v1.cell? ⟨pm, 6, none⟩ = some (.bool m.fu) := G1.out.cm.cell 6
      have m7 : v1.cell? ⟨pm, 7, none⟩ = some (.slice m.rA m.rn m.rc) := G1.out.cm.cell 7
      have m8 : v1.cell? ⟨pm, 8, none⟩ = some (.int .u64 m.ke) := G1.out.cm.cell 8
      have m9 : v1.cell? ⟨pm, 9, none⟩ = some (.int .u64 m.nk) := G1.out.cm.cell 9
      have m10 : v1.cell? ⟨pm, 10, none⟩ = some (.int .u64 m.ot) := G1.out.cm.cell 10
      have m11 : v1.cell? ⟨pm, 11, none⟩ = some (.int .i64 m.ty) := G1.out.cm.cell 11
      have m12 : v1.cell? ⟨pm, 12, none⟩ = some (.bool m.ig) := G1.out.cm.cell 12
      have m13 : v1.cell? ⟨pm, 13, none⟩ = some (.int .i64 m.ap) := G1.out.cm.cell 13
      go_wp2_with (fail)
      refine HLC.out.mono ?_; rintro e v2 ⟨rfl, hb⟩
      have G2 := Lib.hid (G1.out.below hb)
      clear hb HLC m0 m1 m2 m3 m4 m5 m6 m7 m8 m9 m10 m11 m12 m13
      obtain ⟨u, ev, cd, hM⟩ := kpMath (m := m) HN.out
      have HMM := Lib.hid hM
      clear hM
      have c0 : v2.cell? ⟨w.heap.size, 0, none⟩ = some (.slice A t.rs.length c) := G2.out.b.cell 0
      have c1 : v2.cell? ⟨w.heap.size, 1, none⟩ = some (.int .i64 t.ty) := G2.out.b.cell 1
      have c2 : v2.cell? ⟨w.heap.size, 2, none⟩ = some (.string t.ho) := G2.out.b.cell 2
      have c3 : v2.cell? ⟨w.heap.size, 3, none⟩ = some (.int .u32 t.ge) := G2.out.b.cell 3
      have c4 : v2.cell? ⟨w.heap.size, 4, none⟩ = some (.bool t.ap) := G2.out.b.cell 4
      go_wp2_with (fail)
      refine (copy_any A c t v2 G2.out.l (Nat.le_trans HN.out.1 (by decide))).mono ?_; rintro e v3 ⟨A5, c5, rfl, ho5, hb⟩
      have G3 := Lib.hid (G2.out.below hb); have HI := Lib.hid ho5.rgs
      clear hb ho5 c0 c1 c2 c3 c4
      go_upto_region 4 with (fail)
      change Code.wp _ _ _ _ (v3.alloc (.cells (tlC A5 c5 t) 27))
      have hal := (Below.refl v3.heap.size v3).alloc (Nat.le_refl _) (.cells (tlC A5 c5 t) 27)
      have G4 := Lib.hid (G3.out.below hal); have HI4 := Lib.hid (HI.out.below hal); have HIB := Lib.hid (Blk.new v3 27 (tlC A5 c5 t))
      clear hal HI
      generalize v3.alloc (.cells (tlC A5 c5 t) 27) = v4 at *
      obtain ⟨pi, hpi⟩ : ∃ pi, pi = v3.heap.size := ⟨_, rfl⟩
      rw [← hpi] at HIB ⊢
      clear hpi
      have i0 : v4.cell? ⟨pi, 0, none⟩ = some (.slice A5 t.rs.length c5) := HIB.out.cell 0
      have i1 : v4.cell? ⟨pi, 1, none⟩ = some (.int .i64 t.ty) := HIB.out.cell 1
      have i2 : v4.cell? ⟨pi, 2, none⟩ = some (.string t.ho) := HIB.out.cell 2
      have i3 : v4.cell? ⟨pi, 3, none⟩ = some (.int .u32 t.ge) := HIB.out.cell 3
      have i4 : v4.cell? ⟨pi, 4, none⟩ = some (.bool t.ap) := HIB.out.cell 4
      have m0 : v4.cell? ⟨pm, 0, none⟩ = some (.int .i64 m.op) := G4.out.cm.cell 0
      have m1 : v4.cell? ⟨pm, 1, none⟩ = some (.int .i64 m.lu) := G4.out.cm.cell 1
      have m2 : v4.cell? ⟨pm, 2, none⟩ = some (.string m.ho) := G4.out.cm.cell 2
      have m3 : v4.cell? ⟨pm, 3, none⟩ = some (.int .i64 m.lb) := G4.out.cm.cell 3
      have m4 : v4.cell? ⟨pm, 4, none⟩ = some (.int .i64 m.bl) := G4.out.cm.cell 4
      have m5 : v4.cell? ⟨pm, 5, none⟩ = some (.string m.da) := G4.out.cm.cell 5
      have m6 : v4.cell? ⟨pm, 6, none⟩ = some (.bool m.fu) := G4.out.cm.cell 6
      have m7 : v4.cell? ⟨pm, 7, none⟩ = some (.slice m.rA m.rn m.rc) := G4.out.cm.cell 7
      have m8 : v4.cell? ⟨pm, 8, none⟩ = some (.int .u64 m.ke) := G4.out.cm.cell 8
      have m9 : v4.cell? ⟨pm, 9, none⟩ = some (.int .u64 m.nk) := G4.out.cm.cell 9
      have m10 : v4.cell? ⟨pm, 10, none⟩ = some (.int .u64 m.ot) := G4.out.cm.cell 10
      have m11 : v4.cell? ⟨pm, 11, none⟩ = some (.int .i64 m.ty) := G4.out.cm.cell 11
      have m12 : v4.cell? ⟨pm, 12, none⟩ = some (.bool m.ig) := G4.out.cm.cell 12
      have m13 : v4.cell? ⟨pm, 13, none⟩ = some (.int .i64 m.ap) := G4.out.cm.cell 13
      go_wp2_with (fail)
      refine (do_as (w := v4) HI4.out HN.out HSM.out G4.out.tb HMM.out.t1 HMM.out.e1 HMM.out.c1).mono ?_; rintro e v5 ⟨A6, c6, B6, e6, rfl, ho6, he6, hb⟩
      have G5 := Lib.hid (G4.out.below hb); have HI5 := Lib.hid (HI4.out.below hb); have HIB5 := Lib.hid (HIB.out.below hb HIB.out.lt); have HU5 := Lib.hid ho6.rgs; have HE5 := Lib.hid he6.evs
      clear hb ho6 he6 HI4 HIB i0 i1 i2 i3 i4 m0 m1 m2 m3 m4 m5 m6 m7 m8 m9 m10 m11 m12 m13
      go_upto_region 5 with (fail)
      change Code.wp _ _ _ _ (v5.alloc (.cells (tlC A6 c6 u) 27))
      have hal := (Below.refl v5.heap.size v5).alloc (Nat.le_refl _) (.cells (tlC A6 c6 u) 27)
      have G6 := Lib.hid (G5.out.below hal); have HI6 := Lib.hid (HI5.out.below hal); have HIB6 := Lib.hid (HIB5.out.below hal HIB5.out.lt); have HU6 := Lib.hid (HU5.out.below hal); have HE6 := Lib.hid (HE5.out.below hal); have HUB6 := Lib.hid (Blk.new v5 27 (tlC A6 c6 u))
      clear hal HI5 HIB5 HU5 HE5
      generalize v5.alloc (.cells (tlC A6 c6 u) 27) = v6 at *
      obtain ⟨pu, hpu⟩ : ∃ pu, pu = v5.heap.size := ⟨_, rfl⟩
      rw [← hpu] at HUB6 ⊢
      clear hpu
      have c0 : v6.cell? ⟨w.heap.size, 0, none⟩ = some (.slice A t.rs.length c) := G6.out.b.cell 0
      have c1 : v6.cell? ⟨w.heap.size, 1, none⟩ = some (.int .i64 t.ty) := G6.out.b.cell 1
      have c2 : v6.cell? ⟨w.heap.size, 2, none⟩ = some (.string t.ho) := G6.out.b.cell 2
      have c3 : v6.cell? ⟨w.heap.size, 3, none⟩ = some (.int .u32 t.ge) := G6.out.b.cell 3
      have c4 : v6.cell? ⟨w.heap.size, 4, none⟩ = some (.bool t.ap) := G6.out.b.cell 4
      have m0 : v6.cell? ⟨pm, 0, none⟩ = some (.int .i64 m.op) := G6.out.cm.cell 0
      have m1 : v6.cell? ⟨pm, 1, none⟩ = some (.int .i64 m.lu) := G6.out.cm.cell 1
      have m2 : v6.cell? ⟨pm, 2, none⟩ = some (.string m.ho) := G6.out.cm.cell 2
      have m3 : v6.cell? ⟨pm, 3, none⟩ = some (.int .i64 m.lb) := G6.out.cm.cell 3
      have m4 : v6.cell? ⟨pm, 4, none⟩ = some (.int .i64 m.bl) := G6.out.cm.cell 4
      have m5 : v6.cell? ⟨pm, 5, none⟩ = some (.string m.da) := G6.out.cm.cell 5
      have m6 : v6.cell? ⟨pm, 6, none⟩ = some (.bool m.fu) := G6.out.cm.cell 6
      have m7 : v6.cell? ⟨pm, 7, none⟩ = some (.slice m.rA m.rn m.rc) := G6.out.cm.cell 7
      have m8 : v6.cell? ⟨pm, 8, none⟩ = some (.int .u64 m.ke) := G6.out.cm.cell 8
      have m9 : v6.cell? ⟨pm, 9, none⟩ = some (.int .u64 m.nk) := G6.out.cm.cell 9
      have m10 : v6.cell? ⟨pm, 10, none⟩ = some (.int .u64 m.ot) := G6.out.cm.cell 10
      have m11 : v6.cell? ⟨pm, 11, none⟩ = some (.int .i64 m.ty) := G6.out.cm.cell 11
      have m12 : v6.cell? ⟨pm, 12, none⟩ = some (.bool m.ig) := G6.out.cm.cell 12
      have m13 : v6.cell? ⟨pm, 13, none⟩ = some (.int .i64 m.ap) := G6.out.cm.cell 13
      have HRD := Lib.hid (refDo_all v6.heap.size A c t m v6 rfl G6.out.l HN.out.1 HSM.out)
      rw [HMM.out.t1, HMM.out.e1, HMM.out.c1] at HRD
      go_wp2_with (fail)
      refine HRD.out.mono ?_; rintro e v7 ⟨A7, c7, B7, e7, rfl, ho7, he7, hb⟩
      have G7 := Lib.hid (G6.out.below hb); have HI7 := Lib.hid (HI6.out.below hb); have HIB7 := Lib.hid (HIB6.out.below hb HIB6.out.lt); have HU7 := Lib.hid (HU6.out.below hb); have HE7 := Lib.hid (HE6.out.below hb); have HUB7 := Lib.hid (HUB6.out.below hb HUB6.out.lt); have HQ7 := Lib.hid ho7.rgs; have HQE7 := Lib.hid he7.evs
      clear hb ho7 he7 HI6 HIB6 HU6 HE6 HUB6 HRD c0 c1 c2 c3 c4 m0 m1 m2 m3 m4 m5 m6 m7 m8 m9 m10 m11 m12 m13
      go_upto_region 6 with (fail)
      change Code.wp _ _ _ _ (v7.alloc (.cells (tdC A7 c7 u B7 e7 ev cd) 43))
      have hal := (Below.refl v7.heap.size v7).alloc (Nat.le_refl _) (.cells (tdC A7 c7 u B7 e7 ev cd) 43)
      have G8 := Lib.hid (G7.out.below hal); have HI8 := Lib.hid (HI7.out.below hal); have HIB8 := Lib.hid (HIB7.out.below hal HIB7.out.lt); have HU8 := Lib.hid (HU7.out.below hal); have HE8 := Lib.hid (HE7.out.below hal); have HUB8 := Lib.hid (HUB7.out.below hal HUB7.out.lt); have HQ8 := Lib.hid (HQ7.out.below hal); have HQE8 := Lib.hid (HQE7.out.below hal); have HQB8 := Lib.hid (Blk.new v7 43 (tdC A7 c7 u B7 e7 ev cd))
      clear hal HI7 HIB7 HU7 HE7 HUB7 HQ7 HQE7
      generalize v7.alloc (.cells (tdC A7 c7 u B7 e7 ev cd) 43) = v8 at *
      obtain ⟨pq, hpq⟩ : ∃ pq, pq = v7.heap.size := ⟨_, rfl⟩
      rw [← hpq] at HQB8 ⊢
      clear hpq
      have hcd : (cd == cd) = true := by simp
      have HLE := Lib.hid (show ev.length ≤ 100000 from Nat.le_trans HMM.out.ln (by decide))
      have HLU := Lib.hid (show u.rs.length ≤ 100000 from by
        by_cases hc : cd = 1
        · exact Nat.le_trans (goodB_iff.1 (HMM.out.yes hc).2).small.1 (by decide)
        · rw [(HMM.out.no hc).1]; exact Nat.le_trans HN.out.1 (by decide))
      have HLT := Lib.hid (show t.rs.length ≤ 100000 from Nat.le_trans HN.out.1 (by decide))
      have u0 : v8.cell? ⟨pu, 0, none⟩ = some (.slice A6 u.rs.length c6) := HUB8.out.cell 0
      have u1 : v8.cell? ⟨pu, 1, none⟩ = some (.int .i64 u.ty) := HUB8.out.cell 1
      have u2 : v8.cell? ⟨pu, 2, none⟩ = some (.string u.ho) := HUB8.out.cell 2
      have u3 : v8.cell? ⟨pu, 3, none⟩ = some (.int .u32 u.ge) := HUB8.out.cell 3
      have u4 : v8.cell? ⟨pu, 4, none⟩ = some (.bool u.ap) := HUB8.out.cell 4
      have q0 : v8.cell? ⟨pq, 0, none⟩ = some (.slice A7 u.rs.length c7) := HQB8.out.cell 0
      have q1 : v8.cell? ⟨pq, 1, none⟩ = some (.int .i64 u.ty) := HQB8.out.cell 1
      have q2 : v8.cell? ⟨pq, 2, none⟩ = some (.string u.ho) := HQB8.out.cell 2
      have q3 : v8.cell? ⟨pq, 3, none⟩ = some (.int .u32 u.ge) := HQB8.out.cell 3
      have q4 : v8.cell? ⟨pq, 4, none⟩ = some (.bool u.ap) := HQB8.out.cell 4
      have q5 : v8.cell? ⟨pq, 5, none⟩ = some (.slice B7 ev.length e7) := HQB8.out.cell 5
      have q6 : v8.cell? ⟨pq, 6, none⟩ = some (.int .i64 cd) := HQB8.out.cell 6
      go_wp2_with (fail)
      refine (tables_same A6 A7 c6 c7 u v8 HU8.out HQ8.out HLU.out).mono ?_; rintro e v9 ⟨rfl, hb⟩
      have G9 := Lib.hid (G8.out.below hb); have HI9 := Lib.hid (HI8.out.below hb); have HIB9 := Lib.hid (HIB8.out.below hb HIB8.out.lt); have HE9 := Lib.hid (HE8.out.below hb); have HQE9 := Lib.hid (HQE8.out.below hb); have HQB9 := Lib.hid (HQB8.out.below hb HQB8.out.lt)
      clear hb HI8 HIB8 HE8 HQE8 HQB8 HU8 HUB8 HQ8 u0 u1 u2 u3 u4 q0 q1 q2 q3 q4 q5 q6
      have q0 : v9.cell? ⟨pq, 0, none⟩ = some (.slice A7 u.rs.length c7) := HQB9.out.cell 0
      have q1 : v9.cell? ⟨pq, 1, none⟩ = some (.int .i64 u.ty) := HQB9.out.cell 1
      have q2 : v9.cell? ⟨pq, 2, none⟩ = some (.string u.ho) := HQB9.out.cell 2
      have q3 : v9.cell? ⟨pq, 3, none⟩ = some (.int .u32 u.ge) := HQB9.out.cell 3
      have q4 : v9.cell? ⟨pq, 4, none⟩ = some (.bool u.ap) := HQB9.out.cell 4
      have q5 : v9.cell? ⟨pq, 5, none⟩ = some (.slice B7 ev.length e7) := HQB9.out.cell 5
      have q6 : v9.cell? ⟨pq, 6, none⟩ = some (.int .i64 cd) := HQB9.out.cell 6
      go_wp2_with (fail)
      refine (events_same B6 B7 e6 e7 ev v9 HE9.out HQE9.out HLE.out).mono ?_; rintro e v10 ⟨rfl, hb⟩
      have G10 := Lib.hid (G9.out.below hb); have HI10 := Lib.hid (HI9.out.below hb); have HIB10 := Lib.hid (HIB9.out.below hb HIB9.out.lt)
      clear hb HI9 HIB9 HE9 HQE9 HQB9 q0 q1 q2 q3 q4 q5 q6
      have i0 : v10.cell? ⟨pi, 0, none⟩ = some (.slice A5 t.rs.length c5) := HIB10.out.cell 0
      have i1 : v10.cell? ⟨pi, 1, none⟩ = some (.int .i64 t.ty) := HIB10.out.cell 1
      have i2 : v10.cell? ⟨pi, 2, none⟩ = some (.string t.ho) := HIB10.out.cell 2
      have i3 : v10.cell? ⟨pi, 3, none⟩ = some (.int .u32 t.ge) := HIB10.out.cell 3
      have i4 : v10.cell? ⟨pi, 4, none⟩ = some (.bool t.ap) := HIB10.out.cell 4
      have c0 : v10.cell? ⟨w.heap.size, 0, none⟩ = some (.slice A t.rs.length c) := G10.out.b.cell 0
      have c1 : v10.cell? ⟨w.heap.size, 1, none⟩ = some (.int .i64 t.ty) := G10.out.b.cell 1
      have c2 : v10.cell? ⟨w.heap.size, 2, none⟩ = some (.string t.ho) := G10.out.b.cell 2
      have c3 : v10.cell? ⟨w.heap.size, 3, none⟩ = some (.int .u32 t.ge) := G10.out.b.cell 3
      have c4 : v10.cell? ⟨w.heap.size, 4, none⟩ = some (.bool t.ap) := G10.out.b.cell 4
      go_wp2_with (fail)
      refine (tables_same A5 A c5 c t v10 HI10.out G10.out.l HLT.out).mono ?_; rintro e v11 ⟨rfl, hb⟩
      have G11 := Lib.hid (G10.out.below hb)
      clear hb HI10 HIB10 i0 i1 i2 i3 i4 c0 c1 c2 c3 c4
      go_wp2_with (fail)
      refine (wakes_any v11 G11.out.tb).mono ?_; rintro e v12 ⟨rfl, hb⟩
      have G12 := Lib.hid (G11.out.below hb); clear hb
      go_wp2_with (fail)
      go_ret
      exact ⟨rfl, G12.out.bel⟩
end Go.Proofs.YtgekadfkokkapaaDoor
