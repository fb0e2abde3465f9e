/- What every block asks: the statement. -/
import Derived.Test.YtaachlijpgmjeaaDoorCdL
namespace Go.Proofs.YtaachlijpgmjeaaDoor
open Go.RowKit
theorem asked_none {o : Option Ak} : ansA o = (match o with | some y => y | none => zA) := by cases o <;> rfl
set_option maxRecDepth 100000 in
set_option maxHeartbeats 8000000 in
theorem parses_any (P : Code15) (s : ByteArray) (w : World) (ht15 : FT w) : Calls Tryd.prog 3 #[.string s] w fun e w' => e = .returned (.bool true) ∧ Below w.heap.size w w' := by
  have HFT := Lib.hid ht15
  clear ht15
  by_cases h5 : 5000 < s.size
  · have q : (5000 : Int) < (s.size : Int) := by omega
    have HW := Lib.hid (fun v (hv : FT v) => wakes_any P v hv)
    clear h5
    go_enter Tryd.func3, Tryd.ntmps3
    go_wp2_with (fail)
    refine (HW.out w HFT.out).mono ?_; rintro e v1 ⟨rfl, hb⟩
    have HB := Lib.hid hb; clear hb
    go_wp2_with (fail)
    go_ret
    exact ⟨rfl, HB.out⟩
  · have q : ¬ (5000 : Int) < (s.size : Int) := by omega
    obtain ⟨y, hy⟩ : ∃ y, y = ansA (parseS s) := ⟨_, rfl⟩
    obtain ⟨ec, hec⟩ : ∃ ec, ec = errA (parseS s) := ⟨_, rfl⟩
    have HP : Hid (∀ v, FT v → Calls Tryd.prog 9 #[.string s] v fun e w' => e = .returned (.tuple #[akV y, .int .i64 ec]) ∧ Below v.heap.size v w') := Lib.hid (fun v hv => by rw [hy, hec]; exact P.parse s v hv (by omega))
    have HR : Hid (∀ v, Calls Tryd.prog 10 #[.string s] v fun e w' => e = .returned (.tuple #[akV y, .int .i64 ec]) ∧ Below v.heap.size v w') := Lib.hid (fun v => by rw [hy, hec]; exact refParse_any s v (by omega))
    have HL1 := Lib.hid (fun v (hv : FT v) => P.len s v hv (by omega))
    have HL2 := Lib.hid (fun v => refLen_any s v)
    have HO := Lib.hid (fun v y => own_any y v)
    have HM := Lib.hid (fun v (y : Ak) => refSame_any y y v)
    have HW := Lib.hid (fun v (hv : FT v) => wakes_any P v hv)
    obtain ⟨n, hn⟩ : ∃ n, n = lenS s := ⟨_, rfl⟩
    rw [← hn] at HL1 HL2
    have HS := Lib.hid (show sameA y y = true from sameA_iff.2 rfl)
    clear h5 hn hy hec
    go_enter Tryd.func3, Tryd.ntmps3
    go_wp2_with (fail)
    refine (HP.out w HFT.out).mono ?_; rintro e v1 ⟨rfl, hb⟩
    have HB1 := Lib.hid hb; clear hb
    go_upto_region 4 with (fail)
    change Code.wp _ _ _ _ (v1.alloc (.cells (akC y) 24))
    have hal := (Below.refl v1.heap.size v1).alloc (Nat.le_refl _) (.cells (akC y) 24)
    have HK := Lib.hid (Blk.new v1 24 (akC y)); have HB2 := Lib.hid (HB1.out.trans (hal.mono HB1.out.size))
    obtain ⟨p, hp⟩ : ∃ p, p = v1.heap.size := ⟨_, rfl⟩
    rw [← hp] at HK ⊢
    clear hal hp HB1
    generalize v1.alloc (.cells (akC y) 24) = v2 at *
    go_wp2_with (fail)
    refine (HR.out v2).mono ?_; rintro e v3 ⟨rfl, hb⟩
    have HK3 := Lib.hid (HK.out.below hb HK.out.lt); have HB3 := Lib.hid (HB2.out.trans (hb.mono HB2.out.size)); clear hb HK
    go_upto_region 5 with (fail)
    change Code.wp _ _ _ _ (v3.alloc (.cells (akC y) 28))
    have hal := (Below.refl v3.heap.size v3).alloc (Nat.le_refl _) (.cells (akC y) 28)
    have HK4 := Lib.hid (HK3.out.below hal HK3.out.lt); have HJ4 := Lib.hid (Blk.new v3 28 (akC y)); have HB4 := Lib.hid (HB3.out.trans (hal.mono HB3.out.size))
    obtain ⟨r, hr⟩ : ∃ r, r = v3.heap.size := ⟨_, rfl⟩
    rw [← hr] at HJ4 ⊢
    clear hal hr HK3 HB2 HB3
    generalize v3.alloc (.cells (akC y) 28) = v4 at *
    obtain ⟨C, hC0, hCl, hCi, hCm⟩ := class_of v4 (fun v => Blk v p 24 (akC y) ∧ Blk v r 28 (akC y)) (fun v hb => ⟨HK4.out.below hb HK4.out.lt, HJ4.out.below hb HJ4.out.lt⟩)
    have HC0 := Lib.hid hC0; have HL := Lib.hid hCl; have HCi := Lib.hid hCi; have HCm := Lib.hid hCm
    clear hC0 hCl hCi hCm
    refine wp_region_class C (by kernel_rfl) (by kernel_rfl) HC0.out ?_
    go_big_quiet_want
    refine quiet_run (v := akV y) (fun v hv => by have c0 : v.cell? ⟨p, 0, none⟩ = some (.int .i64 y.op) := (HL.out v hv).1.cell 0; have c1 : v.cell? ⟨p, 1, none⟩ = some (.int .i64 y.lba) := (HL.out v hv).1.cell 1; have c2 : v.cell? ⟨p, 2, none⟩ = some (.int .i64 y.blk) := (HL.out v hv).1.cell 2; have c3 : v.cell? ⟨p, 3, none⟩ = some (.bool y.fu) := (HL.out v hv).1.cell 3; have c4 : v.cell? ⟨p, 4, none⟩ = some (.int .i64 y.page) := (HL.out v hv).1.cell 4; have c5 : v.cell? ⟨p, 5, none⟩ = some (.int .i64 y.want) := (HL.out v hv).1.cell 5; have c6 : v.cell? ⟨p, 6, none⟩ = some (.int .i64 y.ty) := (HL.out v hv).1.cell 6; have d0 : v.cell? ⟨r, 0, none⟩ = some (.int .i64 y.op) := (HL.out v hv).2.cell 0; have d1 : v.cell? ⟨r, 1, none⟩ = some (.int .i64 y.lba) := (HL.out v hv).2.cell 1; have d2 : v.cell? ⟨r, 2, none⟩ = some (.int .i64 y.blk) := (HL.out v hv).2.cell 2; have d3 : v.cell? ⟨r, 3, none⟩ = some (.bool y.fu) := (HL.out v hv).2.cell 3; have d4 : v.cell? ⟨r, 4, none⟩ = some (.int .i64 y.page) := (HL.out v hv).2.cell 4; have d5 : v.cell? ⟨r, 5, none⟩ = some (.int .i64 y.want) := (HL.out v hv).2.cell 5; have d6 : v.cell? ⟨r, 6, none⟩ = some (.int .i64 y.ty) := (HL.out v hv).2.cell 6; go_simp) ?_
    simp only [Act.put, List.setIfInBounds_toArray, List.set_cons_zero, List.set_cons_succ]
    go_big_quiet_on
    go_big_quiet_want
    refine quiet_call (f := 12) (args := #[akV y]) (fun v _ => by go_simp) (fun v hv => (HO.out v y).mono fun e w2 h => ⟨h.1, HCm.out v w2 hv h.2⟩) ?_
    simp only [Act.put, List.setIfInBounds_toArray, List.set_cons_zero, List.set_cons_succ]
    go_big_quiet_on
    go_big_quiet_want
    refine quiet_run (v := akV y) (fun v hv => by have c0 : v.cell? ⟨p, 0, none⟩ = some (.int .i64 y.op) := (HL.out v hv).1.cell 0; have c1 : v.cell? ⟨p, 1, none⟩ = some (.int .i64 y.lba) := (HL.out v hv).1.cell 1; have c2 : v.cell? ⟨p, 2, none⟩ = some (.int .i64 y.blk) := (HL.out v hv).1.cell 2; have c3 : v.cell? ⟨p, 3, none⟩ = some (.bool y.fu) := (HL.out v hv).1.cell 3; have c4 : v.cell? ⟨p, 4, none⟩ = some (.int .i64 y.page) := (HL.out v hv).1.cell 4; have c5 : v.cell? ⟨p, 5, none⟩ = some (.int .i64 y.want) := (HL.out v hv).1.cell 5; have c6 : v.cell? ⟨p, 6, none⟩ = some (.int .i64 y.ty) := (HL.out v hv).1.cell 6; have d0 : v.cell? ⟨r, 0, none⟩ = some (.int .i64 y.op) := (HL.out v hv).2.cell 0; have d1 : v.cell? ⟨r, 1, none⟩ = some (.int .i64 y.lba) := (HL.out v hv).2.cell 1; have d2 : v.cell? ⟨r, 2, none⟩ = some (.int .i64 y.blk) := (HL.out v hv).2.cell 2; have d3 : v.cell? ⟨r, 3, none⟩ = some (.bool y.fu) := (HL.out v hv).2.cell 3; have d4 : v.cell? ⟨r, 4, none⟩ = some (.int .i64 y.page) := (HL.out v hv).2.cell 4; have d5 : v.cell? ⟨r, 5, none⟩ = some (.int .i64 y.want) := (HL.out v hv).2.cell 5; have d6 : v.cell? ⟨r, 6, none⟩ = some (.int .i64 y.ty) := (HL.out v hv).2.cell 6; go_simp) ?_
    simp only [Act.put, List.setIfInBounds_toArray, List.set_cons_zero, List.set_cons_succ]
    go_big_quiet_on
    go_big_quiet_want
    refine quiet_call (f := 11) (args := #[akV y, akV y]) (fun v _ => by go_simp) (fun v hv => (HM.out v y).mono fun e w2 h => ⟨h.1.trans (by rw [HS.out]), HCm.out v w2 hv h.2⟩) ?_
    simp only [Act.put, List.setIfInBounds_toArray, List.set_cons_zero, List.set_cons_succ]
    go_big_quiet_on
    go_big_quiet_want
    go_big_quiet_op
    first | go_big_quiet_on | (refine ⟨_, fun _ _ => rfl, ?_⟩; go_big_quiet_on)
    go_big_quiet_want
    go_big_quiet_op
    first | go_big_quiet_on | (refine ⟨_, fun _ _ => rfl, ?_⟩; go_big_quiet_on)
    go_big_quiet_want
    go_big_quiet_op
    first | go_big_quiet_on | (refine ⟨_, fun _ _ => rfl, ?_⟩; go_big_quiet_on)
    go_big_quiet_want
    refine quiet_run (v := .bool true) (fun v hv => by have c0 : v.cell? ⟨p, 0, none⟩ = some (.int .i64 y.op) := (HL.out v hv).1.cell 0; have c1 : v.cell? ⟨p, 1, none⟩ = some (.int .i64 y.lba) := (HL.out v hv).1.cell 1; have c2 : v.cell? ⟨p, 2, none⟩ = some (.int .i64 y.blk) := (HL.out v hv).1.cell 2; have c3 : v.cell? ⟨p, 3, none⟩ = some (.bool y.fu) := (HL.out v hv).1.cell 3; have c4 : v.cell? ⟨p, 4, none⟩ = some (.int .i64 y.page) := (HL.out v hv).1.cell 4; have c5 : v.cell? ⟨p, 5, none⟩ = some (.int .i64 y.want) := (HL.out v hv).1.cell 5; have c6 : v.cell? ⟨p, 6, none⟩ = some (.int .i64 y.ty) := (HL.out v hv).1.cell 6; have d0 : v.cell? ⟨r, 0, none⟩ = some (.int .i64 y.op) := (HL.out v hv).2.cell 0; have d1 : v.cell? ⟨r, 1, none⟩ = some (.int .i64 y.lba) := (HL.out v hv).2.cell 1; have d2 : v.cell? ⟨r, 2, none⟩ = some (.int .i64 y.blk) := (HL.out v hv).2.cell 2; have d3 : v.cell? ⟨r, 3, none⟩ = some (.bool y.fu) := (HL.out v hv).2.cell 3; have d4 : v.cell? ⟨r, 4, none⟩ = some (.int .i64 y.page) := (HL.out v hv).2.cell 4; have d5 : v.cell? ⟨r, 5, none⟩ = some (.int .i64 y.want) := (HL.out v hv).2.cell 5; have d6 : v.cell? ⟨r, 6, none⟩ = some (.int .i64 y.ty) := (HL.out v hv).2.cell 6; go_simp) ?_
    simp only [Act.put, List.setIfInBounds_toArray, List.set_cons_zero, List.set_cons_succ]
    go_big_quiet_on
    go_big_quiet_want
    go_big_quiet_op
    first | go_big_quiet_on | (refine ⟨_, fun _ _ => rfl, ?_⟩; go_big_quiet_on)
    go_big_quiet_want
    go_big_quiet_op
    first | go_big_quiet_on | (refine ⟨_, fun _ _ => rfl, ?_⟩; go_big_quiet_on)
    go_big_quiet_want
    go_big_quiet_op
    first | go_big_quiet_on | (refine ⟨_, fun _ _ => rfl, ?_⟩; go_big_quiet_on)
    go_big_quiet_want
    refine quiet_call (f := 13) (args := #[.string s]) (fun v _ => by go_simp) (fun v hv => (HL1.out v (ft2 HFT (by assumption) (HCi.out v hv))).mono fun e w2 h => ⟨h.1, HCm.out v w2 hv h.2⟩) ?_
    simp only [Act.put, List.setIfInBounds_toArray, List.set_cons_zero, List.set_cons_succ]
    go_big_quiet_on
    go_big_quiet_want
    go_big_quiet_op
    first | go_big_quiet_on | (refine ⟨_, fun _ _ => rfl, ?_⟩; go_big_quiet_on)
    go_big_quiet_want
    refine quiet_call (f := 14) (args := #[.string s]) (fun v _ => by go_simp) (fun v hv => (HL2.out v).mono fun e w2 h => ⟨h.1, HCm.out v w2 hv h.2⟩) ?_
    simp only [Act.put, List.setIfInBounds_toArray, List.set_cons_zero, List.set_cons_succ]
    go_big_quiet_on
    go_big_quiet_want
    refine quiet_run (v := .bool true) (fun v hv => by have c0 : v.cell? ⟨p, 0, none⟩ = some (.int .i64 y.op) := (HL.out v hv).1.cell 0; have c1 : v.cell? ⟨p, 1, none⟩ = some (.int .i64 y.lba) := (HL.out v hv).1.cell 1; have c2 : v.cell? ⟨p, 2, none⟩ = some (.int .i64 y.blk) := (HL.out v hv).1.cell 2; have c3 : v.cell? ⟨p, 3, none⟩ = some (.bool y.fu) := (HL.out v hv).1.cell 3; have c4 : v.cell? ⟨p, 4, none⟩ = some (.int .i64 y.page) := (HL.out v hv).1.cell 4; have c5 : v.cell? ⟨p, 5, none⟩ = some (.int .i64 y.want) := (HL.out v hv).1.cell 5; have c6 : v.cell? ⟨p, 6, none⟩ = some (.int .i64 y.ty) := (HL.out v hv).1.cell 6; have d0 : v.cell? ⟨r, 0, none⟩ = some (.int .i64 y.op) := (HL.out v hv).2.cell 0; have d1 : v.cell? ⟨r, 1, none⟩ = some (.int .i64 y.lba) := (HL.out v hv).2.cell 1; have d2 : v.cell? ⟨r, 2, none⟩ = some (.int .i64 y.blk) := (HL.out v hv).2.cell 2; have d3 : v.cell? ⟨r, 3, none⟩ = some (.bool y.fu) := (HL.out v hv).2.cell 3; have d4 : v.cell? ⟨r, 4, none⟩ = some (.int .i64 y.page) := (HL.out v hv).2.cell 4; have d5 : v.cell? ⟨r, 5, none⟩ = some (.int .i64 y.want) := (HL.out v hv).2.cell 5; have d6 : v.cell? ⟨r, 6, none⟩ = some (.int .i64 y.ty) := (HL.out v hv).2.cell 6; go_simp) ?_
    simp only [Act.put, List.setIfInBounds_toArray, List.set_cons_zero, List.set_cons_succ]
    go_big_quiet_on
    go_big_quiet_want
    go_big_quiet_op
    first | go_big_quiet_on | (refine ⟨_, fun _ _ => rfl, ?_⟩; go_big_quiet_on)
    go_big_quiet_want
    go_big_quiet_op
    first | go_big_quiet_on | (refine ⟨_, fun _ _ => rfl, ?_⟩; go_big_quiet_on)
    go_big_quiet_want
    refine quiet_call (f := 8) (args := #[]) (fun v _ => by go_simp) (fun v hv => (HW.out v (ft2 HFT (by assumption) (HCi.out v hv))).mono fun e w2 h => ⟨h.1, HCm.out v w2 hv h.2⟩) ?_
    simp only [Act.put, List.setIfInBounds_toArray, List.set_cons_zero, List.set_cons_succ]
    go_big_quiet_on
    go_big_quiet_want
    go_big_quiet_op
    first | go_big_quiet_on | (refine ⟨_, fun _ _ => rfl, ?_⟩; go_big_quiet_on)
    go_big_quiet_want
    go_big_quiet_op
    first | go_big_quiet_on | (refine ⟨_, fun _ _ => rfl, ?_⟩; go_big_quiet_on)
    intro v5 hv5
    have HB5 := Lib.hid (HB4.out.trans ((HCi.out v5 hv5).mono HB4.out.size))
    clear hv5
    go_wp2_with (fail)
    go_ret
    exact ⟨rfl, HB5.out⟩
end Go.Proofs.YtaachlijpgmjeaaDoor
