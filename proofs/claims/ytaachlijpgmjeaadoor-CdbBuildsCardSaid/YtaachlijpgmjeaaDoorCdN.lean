/- What was built asks what it was built for; what was parsed is built anew: the statement. -/
import Derived.Test.YtaachlijpgmjeaaDoorCdM
namespace Go.Proofs.YtaachlijpgmjeaaDoor
open Go.RowKit
theorem one_box (w : World) (T : TypeId) (x : Ak) : Blk (w.alloc (.cells (akC x) T)) w.heap.size T (akC x) ∧ Below w.heap.size w (w.alloc (.cells (akC x) T)) :=
  ⟨Blk.new w T (akC x), (Below.refl w.heap.size w).alloc (Nat.le_refl _) _⟩
theorem blk_small {s : ByteArray} {y : Ak} (h : parseS s = some y) : s.size ≤ 16 := (blk_len (parse_blk h).1).2.2.1
set_option maxRecDepth 100000 in
set_option maxHeartbeats 16000000 in
theorem back_any (P : Code15) (x : Ak) (hx : Bnd x) (s : ByteArray) (w : World) (ht15 : FT w) : Calls Tryd.prog 5 #[akV x, .string s] w fun e w' => e = .returned (.bool true) ∧ Below w.heap.size w w' := by
  have HFT := Lib.hid ht15
  clear ht15
  have HW := Lib.hid (fun v (hv : FT v) => wakes_any P v hv)
  have HO := Lib.hid (fun v y => own_any y v)
  have HM : Hid (∀ v (y : Ak), Calls Tryd.prog 11 #[akV y, akV y] v fun e w' => e = .returned (.bool true) ∧ Below v.heap.size v w') := Lib.hid (fun v y => (refSame_any y y v).mono fun e w' h => ⟨h.1.trans (by rw [sameA_iff.2 rfl]), h.2⟩)
  obtain ⟨h1, h2⟩ := one_box w 24 x
  have HX0 := Lib.hid h1; have HB0 := Lib.hid h2
  clear h1 h2
  by_cases h5 : 5000 < s.size
  · have q : (5000 : Int) < (s.size : Int) := by omega
    clear h5
    go_enter Tryd.func5, Tryd.ntmps5
    go_upto_region 1 with (fail)
    change Code.wp _ _ _ _ (w.alloc (.cells (akC x) 24))
    generalize w.alloc (.cells (akC x) 24) = v0 at *
    go_wp2_with (fail)
    refine (HW.out v0 (ft HFT (by assumption))).mono ?_; rintro e v1 ⟨rfl, hb⟩
    have HB1 := Lib.hid (HB0.out.trans (hb.mono HB0.out.size)); clear hb
    go_wp2_with (fail)
    go_ret
    exact ⟨rfl, HB1.out⟩
  · have q : ¬ (5000 : Int) < (s.size : Int) := by omega
    have HP := Lib.hid (fun v (hv : FT v) => P.parse s v hv (by omega))
    have HPB := Lib.hid P
    clear h5 P
    cases hbx : buildS x
    all_goals
     first
     | have hno : buildS x = none := hbx
       clear hno
       have HQ : Hid (∀ v, FT v → Calls Tryd.prog 15 #[akV x] v fun e w' => e = .returned (.tuple #[.string ⟨#[]⟩, .int .i64 150]) ∧ Below v.heap.size v w') := Lib.hid (fun v hv => by have h := HPB.out.build x v hv hx; rw [hbx] at h; exact h)
       clear hbx
       go_enter Tryd.func5, Tryd.ntmps5
       go_upto_region 1 with (fail)
       change Code.wp _ _ _ _ (w.alloc (.cells (akC x) 24))
       generalize w.alloc (.cells (akC x) 24) = v0 at *
       obtain ⟨px, hpx⟩ : ∃ px, px = w.heap.size := ⟨_, rfl⟩
       have HPX := Lib.hid hpx
       rw [← hpx] at HX0 ⊢
       clear hpx
       have c0 : v0.cell? ⟨px, 0, none⟩ = some (.int .i64 x.op) := HX0.out.cell 0
       have c1 : v0.cell? ⟨px, 1, none⟩ = some (.int .i64 x.lba) := HX0.out.cell 1
       have c2 : v0.cell? ⟨px, 2, none⟩ = some (.int .i64 x.blk) := HX0.out.cell 2
       have c3 : v0.cell? ⟨px, 3, none⟩ = some (.bool x.fu) := HX0.out.cell 3
       have c4 : v0.cell? ⟨px, 4, none⟩ = some (.int .i64 x.page) := HX0.out.cell 4
       have c5 : v0.cell? ⟨px, 5, none⟩ = some (.int .i64 x.want) := HX0.out.cell 5
       have c6 : v0.cell? ⟨px, 6, none⟩ = some (.int .i64 x.ty) := HX0.out.cell 6
       go_wp2_with (fail)
       refine (HQ.out v0 (ft HFT (by assumption))).mono ?_; rintro e v1 ⟨rfl, hb⟩
       have HB1 := Lib.hid (HB0.out.trans (hb.mono (by have := HB0.out.size; exact this))); clear hb c0 c1 c2 c3 c4 c5 c6
       go_upto_region 8 with (fail)
       have HBA := Lib.hid HB1.out
       generalize hva : v1 = va at *
       clear hva
     | rename_i t
       have HQ : Hid (∀ v, FT v → Calls Tryd.prog 15 #[akV x] v fun e w' => e = .returned (.tuple #[.string t, .int .i64 0]) ∧ Below v.heap.size v w') := Lib.hid (fun v hv => by have h := HPB.out.build x v hv hx; rw [hbx] at h; exact h)
       obtain ⟨t1, t2⟩ := build_parse hbx
       have HPT : Hid (∀ v, FT v → Calls Tryd.prog 9 #[.string t] v fun e w' => e = .returned (.tuple #[akV x, .int .i64 0]) ∧ Below v.heap.size v w') := Lib.hid (fun v hv => by have h := HPB.out.parse t v hv (Nat.le_trans (blk_small t1) (by decide)); rw [t1] at h; exact h)
       have HLT : Hid (∀ v, FT v → Calls Tryd.prog 13 #[.string t] v fun e w' => e = .returned (.int .i64 (t.size : Int)) ∧ Below v.heap.size v w') := Lib.hid (fun v hv => by rw [← t2]; exact HPB.out.len t v hv (Nat.le_trans (blk_small t1) (by decide)))
       have qt : ((t.size : Int) != (t.size : Int)) = false := by simp
       clear hbx t1 t2
       go_enter Tryd.func5, Tryd.ntmps5
       go_upto_region 1 with (fail)
       change Code.wp _ _ _ _ (w.alloc (.cells (akC x) 24))
       generalize w.alloc (.cells (akC x) 24) = v0 at *
       obtain ⟨px, hpx⟩ : ∃ px, px = w.heap.size := ⟨_, rfl⟩
       have HPX := Lib.hid hpx
       rw [← hpx] at HX0 ⊢
       clear hpx
       have c0 : v0.cell? ⟨px, 0, none⟩ = some (.int .i64 x.op) := HX0.out.cell 0
       have c1 : v0.cell? ⟨px, 1, none⟩ = some (.int .i64 x.lba) := HX0.out.cell 1
       have c2 : v0.cell? ⟨px, 2, none⟩ = some (.int .i64 x.blk) := HX0.out.cell 2
       have c3 : v0.cell? ⟨px, 3, none⟩ = some (.bool x.fu) := HX0.out.cell 3
       have c4 : v0.cell? ⟨px, 4, none⟩ = some (.int .i64 x.page) := HX0.out.cell 4
       have c5 : v0.cell? ⟨px, 5, none⟩ = some (.int .i64 x.want) := HX0.out.cell 5
       have c6 : v0.cell? ⟨px, 6, none⟩ = some (.int .i64 x.ty) := HX0.out.cell 6
       go_wp2_with (fail)
       refine (HQ.out v0 (ft HFT (by assumption))).mono ?_; rintro e v1 ⟨rfl, hb⟩
       have HB1 := Lib.hid (HB0.out.trans (hb.mono HB0.out.size)); have HX1 := Lib.hid (HX0.out.below hb HX0.out.lt); clear hb c0 c1 c2 c3 c4 c5 c6
       go_wp2_with (fail)
       refine (HPT.out v1 (ft HFT (by assumption))).mono ?_; rintro e v2 ⟨rfl, hb⟩
       have HB2 := Lib.hid (HB1.out.trans (hb.mono HB1.out.size)); have HX2 := Lib.hid (HX1.out.below hb HX1.out.lt); clear hb
       go_upto_region 6 with (fail)
       change Code.wp _ _ _ _ (v2.alloc (.cells (akC x) 24))
       have hal := (Below.refl v2.heap.size v2).alloc (Nat.le_refl _) (.cells (akC x) 24)
       have HT3 := Lib.hid (Blk.new v2 24 (akC x)); have HB3 := Lib.hid (HB2.out.trans (hal.mono HB2.out.size))
       have HX3 := Lib.hid (HX2.out.below hal HX2.out.lt)
       obtain ⟨pt, hp⟩ : ∃ p, p = v2.heap.size := ⟨_, rfl⟩
       rw [← hp] at HT3 ⊢
       clear hal hp 
       generalize v2.alloc (.cells (akC x) 24) = v3 at *
       obtain ⟨C, hC0, hCl, hCi, hCm⟩ := class_of v3 (fun v => Blk v px 24 (akC x) ∧ Blk v pt 24 (akC x)) (fun v hb => ⟨HX3.out.below hb HX3.out.lt, HT3.out.below hb HT3.out.lt⟩)
       have HC0 := Lib.hid hC0; have HL := Lib.hid hCl; have HCi := Lib.hid hCi; have HCm := Lib.hid hCm
       clear hC0 hCl hCi hCm
       refine wp_region_class C (by kernel_rfl) (by kernel_rfl) HC0.out ?_
       go_big_quiet_want
       go_big_quiet_op
       first | go_big_quiet_on | (refine ⟨_, fun _ _ => rfl, ?_⟩; go_big_quiet_on)
       go_big_quiet_want
       refine quiet_run (v := .bool false) (fun v hv => by have c0 : v.cell? ⟨px, 0, none⟩ = some (.int .i64 x.op) := (HL.out v hv).1.cell 0; have c1 : v.cell? ⟨px, 1, none⟩ = some (.int .i64 x.lba) := (HL.out v hv).1.cell 1; have c2 : v.cell? ⟨px, 2, none⟩ = some (.int .i64 x.blk) := (HL.out v hv).1.cell 2; have c3 : v.cell? ⟨px, 3, none⟩ = some (.bool x.fu) := (HL.out v hv).1.cell 3; have c4 : v.cell? ⟨px, 4, none⟩ = some (.int .i64 x.page) := (HL.out v hv).1.cell 4; have c5 : v.cell? ⟨px, 5, none⟩ = some (.int .i64 x.want) := (HL.out v hv).1.cell 5; have c6 : v.cell? ⟨px, 6, none⟩ = some (.int .i64 x.ty) := (HL.out v hv).1.cell 6; have d0 : v.cell? ⟨pt, 0, none⟩ = some (.int .i64 x.op) := (HL.out v hv).2.cell 0; have d1 : v.cell? ⟨pt, 1, none⟩ = some (.int .i64 x.lba) := (HL.out v hv).2.cell 1; have d2 : v.cell? ⟨pt, 2, none⟩ = some (.int .i64 x.blk) := (HL.out v hv).2.cell 2; have d3 : v.cell? ⟨pt, 3, none⟩ = some (.bool x.fu) := (HL.out v hv).2.cell 3; have d4 : v.cell? ⟨pt, 4, none⟩ = some (.int .i64 x.page) := (HL.out v hv).2.cell 4; have d5 : v.cell? ⟨pt, 5, none⟩ = some (.int .i64 x.want) := (HL.out v hv).2.cell 5; have d6 : v.cell? ⟨pt, 6, none⟩ = some (.int .i64 x.ty) := (HL.out v hv).2.cell 6; go_simp) ?_
       simp only [Act.put, List.setIfInBounds_toArray, List.set_cons_zero, List.set_cons_succ]
       go_big_quiet_on
       go_big_quiet_want
       go_big_quiet_op
       first | go_big_quiet_on | (refine ⟨_, fun _ _ => rfl, ?_⟩; go_big_quiet_on)
       go_big_quiet_want
       refine quiet_run (v := akV x) (fun v hv => by have c0 : v.cell? ⟨px, 0, none⟩ = some (.int .i64 x.op) := (HL.out v hv).1.cell 0; have c1 : v.cell? ⟨px, 1, none⟩ = some (.int .i64 x.lba) := (HL.out v hv).1.cell 1; have c2 : v.cell? ⟨px, 2, none⟩ = some (.int .i64 x.blk) := (HL.out v hv).1.cell 2; have c3 : v.cell? ⟨px, 3, none⟩ = some (.bool x.fu) := (HL.out v hv).1.cell 3; have c4 : v.cell? ⟨px, 4, none⟩ = some (.int .i64 x.page) := (HL.out v hv).1.cell 4; have c5 : v.cell? ⟨px, 5, none⟩ = some (.int .i64 x.want) := (HL.out v hv).1.cell 5; have c6 : v.cell? ⟨px, 6, none⟩ = some (.int .i64 x.ty) := (HL.out v hv).1.cell 6; have d0 : v.cell? ⟨pt, 0, none⟩ = some (.int .i64 x.op) := (HL.out v hv).2.cell 0; have d1 : v.cell? ⟨pt, 1, none⟩ = some (.int .i64 x.lba) := (HL.out v hv).2.cell 1; have d2 : v.cell? ⟨pt, 2, none⟩ = some (.int .i64 x.blk) := (HL.out v hv).2.cell 2; have d3 : v.cell? ⟨pt, 3, none⟩ = some (.bool x.fu) := (HL.out v hv).2.cell 3; have d4 : v.cell? ⟨pt, 4, none⟩ = some (.int .i64 x.page) := (HL.out v hv).2.cell 4; have d5 : v.cell? ⟨pt, 5, none⟩ = some (.int .i64 x.want) := (HL.out v hv).2.cell 5; have d6 : v.cell? ⟨pt, 6, none⟩ = some (.int .i64 x.ty) := (HL.out v hv).2.cell 6; go_simp) ?_
       simp only [Act.put, List.setIfInBounds_toArray, List.set_cons_zero, List.set_cons_succ]
       go_big_quiet_on
       go_big_quiet_want
       refine quiet_call (f := 12) (args := #[akV x]) (fun v _ => by go_simp) (fun v hv => (HO.out v x).mono fun e w2 h => ⟨h.1, HCm.out v w2 hv h.2⟩) ?_
       simp only [Act.put, List.setIfInBounds_toArray, List.set_cons_zero, List.set_cons_succ]
       go_big_quiet_on
       go_big_quiet_want
       refine quiet_run (v := akV x) (fun v hv => by have c0 : v.cell? ⟨px, 0, none⟩ = some (.int .i64 x.op) := (HL.out v hv).1.cell 0; have c1 : v.cell? ⟨px, 1, none⟩ = some (.int .i64 x.lba) := (HL.out v hv).1.cell 1; have c2 : v.cell? ⟨px, 2, none⟩ = some (.int .i64 x.blk) := (HL.out v hv).1.cell 2; have c3 : v.cell? ⟨px, 3, none⟩ = some (.bool x.fu) := (HL.out v hv).1.cell 3; have c4 : v.cell? ⟨px, 4, none⟩ = some (.int .i64 x.page) := (HL.out v hv).1.cell 4; have c5 : v.cell? ⟨px, 5, none⟩ = some (.int .i64 x.want) := (HL.out v hv).1.cell 5; have c6 : v.cell? ⟨px, 6, none⟩ = some (.int .i64 x.ty) := (HL.out v hv).1.cell 6; have d0 : v.cell? ⟨pt, 0, none⟩ = some (.int .i64 x.op) := (HL.out v hv).2.cell 0; have d1 : v.cell? ⟨pt, 1, none⟩ = some (.int .i64 x.lba) := (HL.out v hv).2.cell 1; have d2 : v.cell? ⟨pt, 2, none⟩ = some (.int .i64 x.blk) := (HL.out v hv).2.cell 2; have d3 : v.cell? ⟨pt, 3, none⟩ = some (.bool x.fu) := (HL.out v hv).2.cell 3; have d4 : v.cell? ⟨pt, 4, none⟩ = some (.int .i64 x.page) := (HL.out v hv).2.cell 4; have d5 : v.cell? ⟨pt, 5, none⟩ = some (.int .i64 x.want) := (HL.out v hv).2.cell 5; have d6 : v.cell? ⟨pt, 6, none⟩ = some (.int .i64 x.ty) := (HL.out v hv).2.cell 6; go_simp) ?_
       simp only [Act.put, List.setIfInBounds_toArray, List.set_cons_zero, List.set_cons_succ]
       go_big_quiet_on
       go_big_quiet_want
       refine quiet_call (f := 12) (args := #[akV x]) (fun v _ => by go_simp) (fun v hv => (HO.out v x).mono fun e w2 h => ⟨h.1, HCm.out v w2 hv h.2⟩) ?_
       simp only [Act.put, List.setIfInBounds_toArray, List.set_cons_zero, List.set_cons_succ]
       go_big_quiet_on
       go_big_quiet_want
       refine quiet_call (f := 11) (args := #[akV x, akV x]) (fun v _ => by go_simp) (fun v hv => (HM.out v x).mono fun e w2 h => ⟨h.1, HCm.out v w2 hv h.2⟩) ?_
       simp only [Act.put, List.setIfInBounds_toArray, List.set_cons_zero, List.set_cons_succ]
       go_big_quiet_on
       go_big_quiet_want
       go_big_quiet_op
       first | go_big_quiet_on | (refine ⟨_, fun _ _ => rfl, ?_⟩; go_big_quiet_on)
       go_big_quiet_want
       refine quiet_run (v := .bool false) (fun v hv => by have c0 : v.cell? ⟨px, 0, none⟩ = some (.int .i64 x.op) := (HL.out v hv).1.cell 0; have c1 : v.cell? ⟨px, 1, none⟩ = some (.int .i64 x.lba) := (HL.out v hv).1.cell 1; have c2 : v.cell? ⟨px, 2, none⟩ = some (.int .i64 x.blk) := (HL.out v hv).1.cell 2; have c3 : v.cell? ⟨px, 3, none⟩ = some (.bool x.fu) := (HL.out v hv).1.cell 3; have c4 : v.cell? ⟨px, 4, none⟩ = some (.int .i64 x.page) := (HL.out v hv).1.cell 4; have c5 : v.cell? ⟨px, 5, none⟩ = some (.int .i64 x.want) := (HL.out v hv).1.cell 5; have c6 : v.cell? ⟨px, 6, none⟩ = some (.int .i64 x.ty) := (HL.out v hv).1.cell 6; have d0 : v.cell? ⟨pt, 0, none⟩ = some (.int .i64 x.op) := (HL.out v hv).2.cell 0; have d1 : v.cell? ⟨pt, 1, none⟩ = some (.int .i64 x.lba) := (HL.out v hv).2.cell 1; have d2 : v.cell? ⟨pt, 2, none⟩ = some (.int .i64 x.blk) := (HL.out v hv).2.cell 2; have d3 : v.cell? ⟨pt, 3, none⟩ = some (.bool x.fu) := (HL.out v hv).2.cell 3; have d4 : v.cell? ⟨pt, 4, none⟩ = some (.int .i64 x.page) := (HL.out v hv).2.cell 4; have d5 : v.cell? ⟨pt, 5, none⟩ = some (.int .i64 x.want) := (HL.out v hv).2.cell 5; have d6 : v.cell? ⟨pt, 6, none⟩ = some (.int .i64 x.ty) := (HL.out v hv).2.cell 6; go_simp) ?_
       simp only [Act.put, List.setIfInBounds_toArray, List.set_cons_zero, List.set_cons_succ]
       go_big_quiet_on
       go_big_quiet_want
       go_big_quiet_op
       first | go_big_quiet_on | (refine ⟨_, fun _ _ => rfl, ?_⟩; go_big_quiet_on)
       go_big_quiet_want
       go_big_quiet_op
       first | go_big_quiet_on | (refine ⟨_, fun _ _ => rfl, ?_⟩; go_big_quiet_on)
       go_big_quiet_want
       refine quiet_run (v := .int .i64 (t.size : Int)) (fun v hv => by have c0 : v.cell? ⟨px, 0, none⟩ = some (.int .i64 x.op) := (HL.out v hv).1.cell 0; have c1 : v.cell? ⟨px, 1, none⟩ = some (.int .i64 x.lba) := (HL.out v hv).1.cell 1; have c2 : v.cell? ⟨px, 2, none⟩ = some (.int .i64 x.blk) := (HL.out v hv).1.cell 2; have c3 : v.cell? ⟨px, 3, none⟩ = some (.bool x.fu) := (HL.out v hv).1.cell 3; have c4 : v.cell? ⟨px, 4, none⟩ = some (.int .i64 x.page) := (HL.out v hv).1.cell 4; have c5 : v.cell? ⟨px, 5, none⟩ = some (.int .i64 x.want) := (HL.out v hv).1.cell 5; have c6 : v.cell? ⟨px, 6, none⟩ = some (.int .i64 x.ty) := (HL.out v hv).1.cell 6; have d0 : v.cell? ⟨pt, 0, none⟩ = some (.int .i64 x.op) := (HL.out v hv).2.cell 0; have d1 : v.cell? ⟨pt, 1, none⟩ = some (.int .i64 x.lba) := (HL.out v hv).2.cell 1; have d2 : v.cell? ⟨pt, 2, none⟩ = some (.int .i64 x.blk) := (HL.out v hv).2.cell 2; have d3 : v.cell? ⟨pt, 3, none⟩ = some (.bool x.fu) := (HL.out v hv).2.cell 3; have d4 : v.cell? ⟨pt, 4, none⟩ = some (.int .i64 x.page) := (HL.out v hv).2.cell 4; have d5 : v.cell? ⟨pt, 5, none⟩ = some (.int .i64 x.want) := (HL.out v hv).2.cell 5; have d6 : v.cell? ⟨pt, 6, none⟩ = some (.int .i64 x.ty) := (HL.out v hv).2.cell 6; go_simp) ?_
       simp only [Act.put, List.setIfInBounds_toArray, List.set_cons_zero, List.set_cons_succ]
       go_big_quiet_on
       go_big_quiet_want
       go_big_quiet_op
       first | go_big_quiet_on | (refine ⟨_, fun _ _ => rfl, ?_⟩; go_big_quiet_on)
       go_big_quiet_want
       refine quiet_call (f := 13) (args := #[.string t]) (fun v _ => by go_simp) (fun v hv => (HLT.out v (ft2 HFT (by assumption) (HCi.out v hv))).mono fun e w2 h => ⟨h.1, HCm.out v w2 hv h.2⟩) ?_
       simp only [Act.put, List.setIfInBounds_toArray, List.set_cons_zero, List.set_cons_succ]
       go_big_quiet_on
       go_big_quiet_want
       refine quiet_run (v := .bool false) (fun v hv => by have c0 : v.cell? ⟨px, 0, none⟩ = some (.int .i64 x.op) := (HL.out v hv).1.cell 0; have c1 : v.cell? ⟨px, 1, none⟩ = some (.int .i64 x.lba) := (HL.out v hv).1.cell 1; have c2 : v.cell? ⟨px, 2, none⟩ = some (.int .i64 x.blk) := (HL.out v hv).1.cell 2; have c3 : v.cell? ⟨px, 3, none⟩ = some (.bool x.fu) := (HL.out v hv).1.cell 3; have c4 : v.cell? ⟨px, 4, none⟩ = some (.int .i64 x.page) := (HL.out v hv).1.cell 4; have c5 : v.cell? ⟨px, 5, none⟩ = some (.int .i64 x.want) := (HL.out v hv).1.cell 5; have c6 : v.cell? ⟨px, 6, none⟩ = some (.int .i64 x.ty) := (HL.out v hv).1.cell 6; have d0 : v.cell? ⟨pt, 0, none⟩ = some (.int .i64 x.op) := (HL.out v hv).2.cell 0; have d1 : v.cell? ⟨pt, 1, none⟩ = some (.int .i64 x.lba) := (HL.out v hv).2.cell 1; have d2 : v.cell? ⟨pt, 2, none⟩ = some (.int .i64 x.blk) := (HL.out v hv).2.cell 2; have d3 : v.cell? ⟨pt, 3, none⟩ = some (.bool x.fu) := (HL.out v hv).2.cell 3; have d4 : v.cell? ⟨pt, 4, none⟩ = some (.int .i64 x.page) := (HL.out v hv).2.cell 4; have d5 : v.cell? ⟨pt, 5, none⟩ = some (.int .i64 x.want) := (HL.out v hv).2.cell 5; have d6 : v.cell? ⟨pt, 6, none⟩ = some (.int .i64 x.ty) := (HL.out v hv).2.cell 6; go_simp) ?_
       simp only [Act.put, List.setIfInBounds_toArray, List.set_cons_zero, List.set_cons_succ]
       go_big_quiet_on
       go_big_quiet_want
       refine quiet_run (v := .bool false) (fun v hv => by have c0 : v.cell? ⟨px, 0, none⟩ = some (.int .i64 x.op) := (HL.out v hv).1.cell 0; have c1 : v.cell? ⟨px, 1, none⟩ = some (.int .i64 x.lba) := (HL.out v hv).1.cell 1; have c2 : v.cell? ⟨px, 2, none⟩ = some (.int .i64 x.blk) := (HL.out v hv).1.cell 2; have c3 : v.cell? ⟨px, 3, none⟩ = some (.bool x.fu) := (HL.out v hv).1.cell 3; have c4 : v.cell? ⟨px, 4, none⟩ = some (.int .i64 x.page) := (HL.out v hv).1.cell 4; have c5 : v.cell? ⟨px, 5, none⟩ = some (.int .i64 x.want) := (HL.out v hv).1.cell 5; have c6 : v.cell? ⟨px, 6, none⟩ = some (.int .i64 x.ty) := (HL.out v hv).1.cell 6; have d0 : v.cell? ⟨pt, 0, none⟩ = some (.int .i64 x.op) := (HL.out v hv).2.cell 0; have d1 : v.cell? ⟨pt, 1, none⟩ = some (.int .i64 x.lba) := (HL.out v hv).2.cell 1; have d2 : v.cell? ⟨pt, 2, none⟩ = some (.int .i64 x.blk) := (HL.out v hv).2.cell 2; have d3 : v.cell? ⟨pt, 3, none⟩ = some (.bool x.fu) := (HL.out v hv).2.cell 3; have d4 : v.cell? ⟨pt, 4, none⟩ = some (.int .i64 x.page) := (HL.out v hv).2.cell 4; have d5 : v.cell? ⟨pt, 5, none⟩ = some (.int .i64 x.want) := (HL.out v hv).2.cell 5; have d6 : v.cell? ⟨pt, 6, none⟩ = some (.int .i64 x.ty) := (HL.out v hv).2.cell 6; go_simp) ?_
       simp only [Act.put, List.setIfInBounds_toArray, List.set_cons_zero, List.set_cons_succ]
       go_big_quiet_on
       intro v9 hv9
       have HB9 := Lib.hid (HB3.out.trans ((HCi.out v9 hv9).mono HB3.out.size))
       clear hv9
       go_upto_region 8 with (fail)
       have HBA := Lib.hid HB9.out
       generalize hva : v9 = va at *
       clear hva
     cases hps : parseS s
     case none =>
      have HPS : Hid (∀ v, FT v → Calls Tryd.prog 9 #[.string s] v fun e w' => e = .returned (.tuple #[akV zA, .int .i64 150]) ∧ Below v.heap.size v w') := Lib.hid (fun v hv => by have h := HP.out v hv; rw [hps] at h; exact h)
      clear hps
      go_wp2_with (fail)
      refine (HPS.out va (ft HFT (by assumption))).mono ?_; rintro e vb ⟨rfl, hb⟩
      have HBB := Lib.hid (HBA.out.trans (hb.mono HBA.out.size)); clear hb
      go_upto_region 9 with (fail)
      change Code.wp _ _ _ _ (vb.alloc (.cells (akC zA) 24))
      have hal := (Below.refl vb.heap.size vb).alloc (Nat.le_refl _) (.cells (akC zA) 24)
      have HY := Lib.hid (Blk.new vb 24 (akC zA)); have HBC := Lib.hid (HBB.out.trans (hal.mono HBB.out.size))
      obtain ⟨py, hp⟩ : ∃ p, p = vb.heap.size := ⟨_, rfl⟩
      rw [← hp] at HY ⊢
      clear hal hp 
      generalize vb.alloc (.cells (akC zA) 24) = vc at *
      have c0 : vc.cell? ⟨py, 0, none⟩ = some (.int .i64 zA.op) := HY.out.cell 0
      have c1 : vc.cell? ⟨py, 1, none⟩ = some (.int .i64 zA.lba) := HY.out.cell 1
      have c2 : vc.cell? ⟨py, 2, none⟩ = some (.int .i64 zA.blk) := HY.out.cell 2
      have c3 : vc.cell? ⟨py, 3, none⟩ = some (.bool zA.fu) := HY.out.cell 3
      have c4 : vc.cell? ⟨py, 4, none⟩ = some (.int .i64 zA.page) := HY.out.cell 4
      have c5 : vc.cell? ⟨py, 5, none⟩ = some (.int .i64 zA.want) := HY.out.cell 5
      have c6 : vc.cell? ⟨py, 6, none⟩ = some (.int .i64 zA.ty) := HY.out.cell 6
      go_wp2_with (fail)
      refine (HO.out vc zA).mono ?_; rintro e vd ⟨rfl, hb⟩
      have HBD := Lib.hid (HBC.out.trans (hb.mono HBC.out.size)); clear hb c0 c1 c2 c3 c4 c5 c6
      go_wp2_with (fail)
      refine (HM.out vd zA).mono ?_; rintro e ve ⟨rfl, hb⟩
      have HBE := Lib.hid (HBD.out.trans (hb.mono HBD.out.size)); clear hb
      go_wp2_with (fail)
      refine (HW.out ve (ft HFT (by assumption))).mono ?_; rintro e vf ⟨rfl, hb⟩
      have HBF := Lib.hid (HBE.out.trans (hb.mono HBE.out.size)); clear hb
      go_wp2_with (fail)
      go_ret
      exact ⟨rfl, HBF.out⟩
     case some y =>
      have HPS : Hid (∀ v, FT v → Calls Tryd.prog 9 #[.string s] v fun e w' => e = .returned (.tuple #[akV y, .int .i64 0]) ∧ Below v.heap.size v w') := Lib.hid (fun v hv => by have h := HP.out v hv; rw [hps] at h; exact h)
      obtain ⟨u, u1, u2, u3⟩ := parse_build hps
      have hby := okA_bnd (parse_ok hps).1
      have HBU : Hid (∀ v, FT v → Calls Tryd.prog 15 #[akV y] v fun e w' => e = .returned (.tuple #[.string u, .int .i64 0]) ∧ Below v.heap.size v w') := Lib.hid (fun v hv => by have h := HPB.out.build y v hv hby; rw [u1] at h; exact h)
      have HPU : Hid (∀ v, FT v → Calls Tryd.prog 9 #[.string u] v fun e w' => e = .returned (.tuple #[akV y, .int .i64 0]) ∧ Below v.heap.size v w') := Lib.hid (fun v hv => by have h := HPB.out.parse u v hv (Nat.le_trans (blk_small u2) (by decide)); rw [u2] at h; exact h)
      have qu : (u.size : Int) = (s.size : Int) := by rw [u3]
      clear hps u1 u2 u3 hby
      go_wp2_with (fail)
      refine (HPS.out va (ft HFT (by assumption))).mono ?_; rintro e vb ⟨rfl, hb⟩
      have HBB := Lib.hid (HBA.out.trans (hb.mono HBA.out.size)); clear hb
      go_upto_region 9 with (fail)
      change Code.wp _ _ _ _ (vb.alloc (.cells (akC y) 24))
      have hal := (Below.refl vb.heap.size vb).alloc (Nat.le_refl _) (.cells (akC y) 24)
      have HY := Lib.hid (Blk.new vb 24 (akC y)); have HBC := Lib.hid (HBB.out.trans (hal.mono HBB.out.size))
      obtain ⟨py, hp⟩ : ∃ p, p = vb.heap.size := ⟨_, rfl⟩
      rw [← hp] at HY ⊢
      clear hal hp 
      generalize vb.alloc (.cells (akC y) 24) = vc at *
      have c0 : vc.cell? ⟨py, 0, none⟩ = some (.int .i64 y.op) := HY.out.cell 0
      have c1 : vc.cell? ⟨py, 1, none⟩ = some (.int .i64 y.lba) := HY.out.cell 1
      have c2 : vc.cell? ⟨py, 2, none⟩ = some (.int .i64 y.blk) := HY.out.cell 2
      have c3 : vc.cell? ⟨py, 3, none⟩ = some (.bool y.fu) := HY.out.cell 3
      have c4 : vc.cell? ⟨py, 4, none⟩ = some (.int .i64 y.page) := HY.out.cell 4
      have c5 : vc.cell? ⟨py, 5, none⟩ = some (.int .i64 y.want) := HY.out.cell 5
      have c6 : vc.cell? ⟨py, 6, none⟩ = some (.int .i64 y.ty) := HY.out.cell 6
      go_wp2_with (fail)
      refine (HBU.out vc (ft HFT (by assumption))).mono ?_; rintro e vd ⟨rfl, hb⟩
      have HBD := Lib.hid (HBC.out.trans (hb.mono HBC.out.size)); have HYD := Lib.hid (HY.out.below hb HY.out.lt); clear hb c0 c1 c2 c3 c4 c5 c6
      go_wp2_with (fail)
      refine (HPU.out vd (ft HFT (by assumption))).mono ?_; rintro e ve ⟨rfl, hb⟩
      have HBE := Lib.hid (HBD.out.trans (hb.mono HBD.out.size)); have HYE := Lib.hid (HYD.out.below hb HYD.out.lt); clear hb
      go_upto_region 13 with (fail)
      change Code.wp _ _ _ _ (ve.alloc (.cells (akC y) 24))
      have hal := (Below.refl ve.heap.size ve).alloc (Nat.le_refl _) (.cells (akC y) 24)
      have HZ := Lib.hid (Blk.new ve 24 (akC y)); have HBF := Lib.hid (HBE.out.trans (hal.mono HBE.out.size))
      have HYF := Lib.hid (HYE.out.below hal HYE.out.lt)
      obtain ⟨pz, hp⟩ : ∃ p, p = ve.heap.size := ⟨_, rfl⟩
      rw [← hp] at HZ ⊢
      clear hal hp 
      generalize ve.alloc (.cells (akC y) 24) = vf at *
      obtain ⟨C, hC0, hCl, hCi, hCm⟩ := class_of vf (fun v => Blk v py 24 (akC y) ∧ Blk v pz 24 (akC y)) (fun v hb => ⟨HYF.out.below hb HYF.out.lt, HZ.out.below hb HZ.out.lt⟩)
      have HC0 := Lib.hid hC0; have HL := Lib.hid hCl; have HCi := Lib.hid hCi; have HCm := Lib.hid hCm
      clear hC0 hCl hCi hCm
      refine wp_region_class C (by kernel_rfl) (by kernel_rfl) HC0.out ?_
      go_big_quiet_want
      go_big_quiet_op
      first | go_big_quiet_on | (refine ⟨_, fun _ _ => rfl, ?_⟩; go_big_quiet_on)
      go_big_quiet_want
      refine quiet_run (v := .bool true) (fun v hv => by have c0 : v.cell? ⟨py, 0, none⟩ = some (.int .i64 y.op) := (HL.out v hv).1.cell 0; have c1 : v.cell? ⟨py, 1, none⟩ = some (.int .i64 y.lba) := (HL.out v hv).1.cell 1; have c2 : v.cell? ⟨py, 2, none⟩ = some (.int .i64 y.blk) := (HL.out v hv).1.cell 2; have c3 : v.cell? ⟨py, 3, none⟩ = some (.bool y.fu) := (HL.out v hv).1.cell 3; have c4 : v.cell? ⟨py, 4, none⟩ = some (.int .i64 y.page) := (HL.out v hv).1.cell 4; have c5 : v.cell? ⟨py, 5, none⟩ = some (.int .i64 y.want) := (HL.out v hv).1.cell 5; have c6 : v.cell? ⟨py, 6, none⟩ = some (.int .i64 y.ty) := (HL.out v hv).1.cell 6; have d0 : v.cell? ⟨pz, 0, none⟩ = some (.int .i64 y.op) := (HL.out v hv).2.cell 0; have d1 : v.cell? ⟨pz, 1, none⟩ = some (.int .i64 y.lba) := (HL.out v hv).2.cell 1; have d2 : v.cell? ⟨pz, 2, none⟩ = some (.int .i64 y.blk) := (HL.out v hv).2.cell 2; have d3 : v.cell? ⟨pz, 3, none⟩ = some (.bool y.fu) := (HL.out v hv).2.cell 3; have d4 : v.cell? ⟨pz, 4, none⟩ = some (.int .i64 y.page) := (HL.out v hv).2.cell 4; have d5 : v.cell? ⟨pz, 5, none⟩ = some (.int .i64 y.want) := (HL.out v hv).2.cell 5; have d6 : v.cell? ⟨pz, 6, none⟩ = some (.int .i64 y.ty) := (HL.out v hv).2.cell 6; go_simp) ?_
      simp only [Act.put, List.setIfInBounds_toArray, List.set_cons_zero, List.set_cons_succ]
      go_big_quiet_on
      go_big_quiet_want
      go_big_quiet_op
      first | go_big_quiet_on | (refine ⟨_, fun _ _ => rfl, ?_⟩; go_big_quiet_on)
      go_big_quiet_want
      go_big_quiet_op
      first | go_big_quiet_on | (refine ⟨_, fun _ _ => rfl, ?_⟩; go_big_quiet_on)
      go_big_quiet_want
      refine quiet_run (v := .bool true) (fun v hv => by have c0 : v.cell? ⟨py, 0, none⟩ = some (.int .i64 y.op) := (HL.out v hv).1.cell 0; have c1 : v.cell? ⟨py, 1, none⟩ = some (.int .i64 y.lba) := (HL.out v hv).1.cell 1; have c2 : v.cell? ⟨py, 2, none⟩ = some (.int .i64 y.blk) := (HL.out v hv).1.cell 2; have c3 : v.cell? ⟨py, 3, none⟩ = some (.bool y.fu) := (HL.out v hv).1.cell 3; have c4 : v.cell? ⟨py, 4, none⟩ = some (.int .i64 y.page) := (HL.out v hv).1.cell 4; have c5 : v.cell? ⟨py, 5, none⟩ = some (.int .i64 y.want) := (HL.out v hv).1.cell 5; have c6 : v.cell? ⟨py, 6, none⟩ = some (.int .i64 y.ty) := (HL.out v hv).1.cell 6; have d0 : v.cell? ⟨pz, 0, none⟩ = some (.int .i64 y.op) := (HL.out v hv).2.cell 0; have d1 : v.cell? ⟨pz, 1, none⟩ = some (.int .i64 y.lba) := (HL.out v hv).2.cell 1; have d2 : v.cell? ⟨pz, 2, none⟩ = some (.int .i64 y.blk) := (HL.out v hv).2.cell 2; have d3 : v.cell? ⟨pz, 3, none⟩ = some (.bool y.fu) := (HL.out v hv).2.cell 3; have d4 : v.cell? ⟨pz, 4, none⟩ = some (.int .i64 y.page) := (HL.out v hv).2.cell 4; have d5 : v.cell? ⟨pz, 5, none⟩ = some (.int .i64 y.want) := (HL.out v hv).2.cell 5; have d6 : v.cell? ⟨pz, 6, none⟩ = some (.int .i64 y.ty) := (HL.out v hv).2.cell 6; go_simp) ?_
      simp only [Act.put, List.setIfInBounds_toArray, List.set_cons_zero, List.set_cons_succ]
      go_big_quiet_on
      go_big_quiet_want
      go_big_quiet_op
      first | go_big_quiet_on | (refine ⟨_, fun _ _ => rfl, ?_⟩; go_big_quiet_on)
      go_big_quiet_want
      go_big_quiet_op
      first | go_big_quiet_on | (refine ⟨_, fun _ _ => rfl, ?_⟩; go_big_quiet_on)
      go_big_quiet_want
      refine quiet_run (v := akV y) (fun v hv => by have c0 : v.cell? ⟨py, 0, none⟩ = some (.int .i64 y.op) := (HL.out v hv).1.cell 0; have c1 : v.cell? ⟨py, 1, none⟩ = some (.int .i64 y.lba) := (HL.out v hv).1.cell 1; have c2 : v.cell? ⟨py, 2, none⟩ = some (.int .i64 y.blk) := (HL.out v hv).1.cell 2; have c3 : v.cell? ⟨py, 3, none⟩ = some (.bool y.fu) := (HL.out v hv).1.cell 3; have c4 : v.cell? ⟨py, 4, none⟩ = some (.int .i64 y.page) := (HL.out v hv).1.cell 4; have c5 : v.cell? ⟨py, 5, none⟩ = some (.int .i64 y.want) := (HL.out v hv).1.cell 5; have c6 : v.cell? ⟨py, 6, none⟩ = some (.int .i64 y.ty) := (HL.out v hv).1.cell 6; have d0 : v.cell? ⟨pz, 0, none⟩ = some (.int .i64 y.op) := (HL.out v hv).2.cell 0; have d1 : v.cell? ⟨pz, 1, none⟩ = some (.int .i64 y.lba) := (HL.out v hv).2.cell 1; have d2 : v.cell? ⟨pz, 2, none⟩ = some (.int .i64 y.blk) := (HL.out v hv).2.cell 2; have d3 : v.cell? ⟨pz, 3, none⟩ = some (.bool y.fu) := (HL.out v hv).2.cell 3; have d4 : v.cell? ⟨pz, 4, none⟩ = some (.int .i64 y.page) := (HL.out v hv).2.cell 4; have d5 : v.cell? ⟨pz, 5, none⟩ = some (.int .i64 y.want) := (HL.out v hv).2.cell 5; have d6 : v.cell? ⟨pz, 6, none⟩ = some (.int .i64 y.ty) := (HL.out v hv).2.cell 6; go_simp) ?_
      simp only [Act.put, List.setIfInBounds_toArray, List.set_cons_zero, List.set_cons_succ]
      go_big_quiet_on
      go_big_quiet_want
      refine quiet_call (f := 12) (args := #[akV y]) (fun v _ => by go_simp) (fun v hv => (HO.out v y).mono fun e w2 h => ⟨h.1, HCm.out v w2 hv h.2⟩) ?_
      simp only [Act.put, List.setIfInBounds_toArray, List.set_cons_zero, List.set_cons_succ]
      go_big_quiet_on
      go_big_quiet_want
      refine quiet_run (v := akV y) (fun v hv => by have c0 : v.cell? ⟨py, 0, none⟩ = some (.int .i64 y.op) := (HL.out v hv).1.cell 0; have c1 : v.cell? ⟨py, 1, none⟩ = some (.int .i64 y.lba) := (HL.out v hv).1.cell 1; have c2 : v.cell? ⟨py, 2, none⟩ = some (.int .i64 y.blk) := (HL.out v hv).1.cell 2; have c3 : v.cell? ⟨py, 3, none⟩ = some (.bool y.fu) := (HL.out v hv).1.cell 3; have c4 : v.cell? ⟨py, 4, none⟩ = some (.int .i64 y.page) := (HL.out v hv).1.cell 4; have c5 : v.cell? ⟨py, 5, none⟩ = some (.int .i64 y.want) := (HL.out v hv).1.cell 5; have c6 : v.cell? ⟨py, 6, none⟩ = some (.int .i64 y.ty) := (HL.out v hv).1.cell 6; have d0 : v.cell? ⟨pz, 0, none⟩ = some (.int .i64 y.op) := (HL.out v hv).2.cell 0; have d1 : v.cell? ⟨pz, 1, none⟩ = some (.int .i64 y.lba) := (HL.out v hv).2.cell 1; have d2 : v.cell? ⟨pz, 2, none⟩ = some (.int .i64 y.blk) := (HL.out v hv).2.cell 2; have d3 : v.cell? ⟨pz, 3, none⟩ = some (.bool y.fu) := (HL.out v hv).2.cell 3; have d4 : v.cell? ⟨pz, 4, none⟩ = some (.int .i64 y.page) := (HL.out v hv).2.cell 4; have d5 : v.cell? ⟨pz, 5, none⟩ = some (.int .i64 y.want) := (HL.out v hv).2.cell 5; have d6 : v.cell? ⟨pz, 6, none⟩ = some (.int .i64 y.ty) := (HL.out v hv).2.cell 6; go_simp) ?_
      simp only [Act.put, List.setIfInBounds_toArray, List.set_cons_zero, List.set_cons_succ]
      go_big_quiet_on
      go_big_quiet_want
      refine quiet_call (f := 12) (args := #[akV y]) (fun v _ => by go_simp) (fun v hv => (HO.out v y).mono fun e w2 h => ⟨h.1, HCm.out v w2 hv h.2⟩) ?_
      simp only [Act.put, List.setIfInBounds_toArray, List.set_cons_zero, List.set_cons_succ]
      go_big_quiet_on
      go_big_quiet_want
      refine quiet_call (f := 11) (args := #[akV y, akV y]) (fun v _ => by go_simp) (fun v hv => (HM.out v y).mono fun e w2 h => ⟨h.1, HCm.out v w2 hv h.2⟩) ?_
      simp only [Act.put, List.setIfInBounds_toArray, List.set_cons_zero, List.set_cons_succ]
      go_big_quiet_on
      go_big_quiet_want
      go_big_quiet_op
      first | go_big_quiet_on | (refine ⟨_, fun _ _ => rfl, ?_⟩; go_big_quiet_on)
      go_big_quiet_want
      go_big_quiet_op
      first | go_big_quiet_on | (refine ⟨_, fun _ _ => rfl, ?_⟩; go_big_quiet_on)
      go_big_quiet_want
      go_big_quiet_op
      first | go_big_quiet_on | (refine ⟨_, fun _ _ => rfl, ?_⟩; go_big_quiet_on)
      go_big_quiet_want
      refine quiet_run (v := .int .i64 (s.size : Int)) (fun v hv => by have c0 : v.cell? ⟨py, 0, none⟩ = some (.int .i64 y.op) := (HL.out v hv).1.cell 0; have c1 : v.cell? ⟨py, 1, none⟩ = some (.int .i64 y.lba) := (HL.out v hv).1.cell 1; have c2 : v.cell? ⟨py, 2, none⟩ = some (.int .i64 y.blk) := (HL.out v hv).1.cell 2; have c3 : v.cell? ⟨py, 3, none⟩ = some (.bool y.fu) := (HL.out v hv).1.cell 3; have c4 : v.cell? ⟨py, 4, none⟩ = some (.int .i64 y.page) := (HL.out v hv).1.cell 4; have c5 : v.cell? ⟨py, 5, none⟩ = some (.int .i64 y.want) := (HL.out v hv).1.cell 5; have c6 : v.cell? ⟨py, 6, none⟩ = some (.int .i64 y.ty) := (HL.out v hv).1.cell 6; have d0 : v.cell? ⟨pz, 0, none⟩ = some (.int .i64 y.op) := (HL.out v hv).2.cell 0; have d1 : v.cell? ⟨pz, 1, none⟩ = some (.int .i64 y.lba) := (HL.out v hv).2.cell 1; have d2 : v.cell? ⟨pz, 2, none⟩ = some (.int .i64 y.blk) := (HL.out v hv).2.cell 2; have d3 : v.cell? ⟨pz, 3, none⟩ = some (.bool y.fu) := (HL.out v hv).2.cell 3; have d4 : v.cell? ⟨pz, 4, none⟩ = some (.int .i64 y.page) := (HL.out v hv).2.cell 4; have d5 : v.cell? ⟨pz, 5, none⟩ = some (.int .i64 y.want) := (HL.out v hv).2.cell 5; have d6 : v.cell? ⟨pz, 6, none⟩ = some (.int .i64 y.ty) := (HL.out v hv).2.cell 6; go_simp) ?_
      simp only [Act.put, List.setIfInBounds_toArray, List.set_cons_zero, List.set_cons_succ]
      go_big_quiet_on
      go_big_quiet_want
      go_big_quiet_op
      first | go_big_quiet_on | (refine ⟨_, fun _ _ => rfl, ?_⟩; go_big_quiet_on)
      go_big_quiet_want
      refine quiet_run (v := .int .i64 (s.size : Int)) (fun v hv => by have c0 : v.cell? ⟨py, 0, none⟩ = some (.int .i64 y.op) := (HL.out v hv).1.cell 0; have c1 : v.cell? ⟨py, 1, none⟩ = some (.int .i64 y.lba) := (HL.out v hv).1.cell 1; have c2 : v.cell? ⟨py, 2, none⟩ = some (.int .i64 y.blk) := (HL.out v hv).1.cell 2; have c3 : v.cell? ⟨py, 3, none⟩ = some (.bool y.fu) := (HL.out v hv).1.cell 3; have c4 : v.cell? ⟨py, 4, none⟩ = some (.int .i64 y.page) := (HL.out v hv).1.cell 4; have c5 : v.cell? ⟨py, 5, none⟩ = some (.int .i64 y.want) := (HL.out v hv).1.cell 5; have c6 : v.cell? ⟨py, 6, none⟩ = some (.int .i64 y.ty) := (HL.out v hv).1.cell 6; have d0 : v.cell? ⟨pz, 0, none⟩ = some (.int .i64 y.op) := (HL.out v hv).2.cell 0; have d1 : v.cell? ⟨pz, 1, none⟩ = some (.int .i64 y.lba) := (HL.out v hv).2.cell 1; have d2 : v.cell? ⟨pz, 2, none⟩ = some (.int .i64 y.blk) := (HL.out v hv).2.cell 2; have d3 : v.cell? ⟨pz, 3, none⟩ = some (.bool y.fu) := (HL.out v hv).2.cell 3; have d4 : v.cell? ⟨pz, 4, none⟩ = some (.int .i64 y.page) := (HL.out v hv).2.cell 4; have d5 : v.cell? ⟨pz, 5, none⟩ = some (.int .i64 y.want) := (HL.out v hv).2.cell 5; have d6 : v.cell? ⟨pz, 6, none⟩ = some (.int .i64 y.ty) := (HL.out v hv).2.cell 6; go_simp) ?_
      simp only [Act.put, List.setIfInBounds_toArray, List.set_cons_zero, List.set_cons_succ]
      go_big_quiet_on
      go_big_quiet_want
      refine quiet_run (v := .bool true) (fun v hv => by have c0 : v.cell? ⟨py, 0, none⟩ = some (.int .i64 y.op) := (HL.out v hv).1.cell 0; have c1 : v.cell? ⟨py, 1, none⟩ = some (.int .i64 y.lba) := (HL.out v hv).1.cell 1; have c2 : v.cell? ⟨py, 2, none⟩ = some (.int .i64 y.blk) := (HL.out v hv).1.cell 2; have c3 : v.cell? ⟨py, 3, none⟩ = some (.bool y.fu) := (HL.out v hv).1.cell 3; have c4 : v.cell? ⟨py, 4, none⟩ = some (.int .i64 y.page) := (HL.out v hv).1.cell 4; have c5 : v.cell? ⟨py, 5, none⟩ = some (.int .i64 y.want) := (HL.out v hv).1.cell 5; have c6 : v.cell? ⟨py, 6, none⟩ = some (.int .i64 y.ty) := (HL.out v hv).1.cell 6; have d0 : v.cell? ⟨pz, 0, none⟩ = some (.int .i64 y.op) := (HL.out v hv).2.cell 0; have d1 : v.cell? ⟨pz, 1, none⟩ = some (.int .i64 y.lba) := (HL.out v hv).2.cell 1; have d2 : v.cell? ⟨pz, 2, none⟩ = some (.int .i64 y.blk) := (HL.out v hv).2.cell 2; have d3 : v.cell? ⟨pz, 3, none⟩ = some (.bool y.fu) := (HL.out v hv).2.cell 3; have d4 : v.cell? ⟨pz, 4, none⟩ = some (.int .i64 y.page) := (HL.out v hv).2.cell 4; have d5 : v.cell? ⟨pz, 5, none⟩ = some (.int .i64 y.want) := (HL.out v hv).2.cell 5; have d6 : v.cell? ⟨pz, 6, none⟩ = some (.int .i64 y.ty) := (HL.out v hv).2.cell 6; go_simp) ?_
      simp only [Act.put, List.setIfInBounds_toArray, List.set_cons_zero, List.set_cons_succ]
      go_big_quiet_on
      go_big_quiet_want
      go_big_quiet_op
      first | go_big_quiet_on | (refine ⟨_, fun _ _ => rfl, ?_⟩; go_big_quiet_on)
      go_big_quiet_want
      go_big_quiet_op
      first | go_big_quiet_on | (refine ⟨_, fun _ _ => rfl, ?_⟩; go_big_quiet_on)
      go_big_quiet_want
      refine quiet_call (f := 8) (args := #[]) (fun v _ => by go_simp) (fun v hv => (HW.out v (ft2 HFT (by assumption) (HCi.out v hv))).mono fun e w2 h => ⟨h.1, HCm.out v w2 hv h.2⟩) ?_
      simp only [Act.put, List.setIfInBounds_toArray, List.set_cons_zero, List.set_cons_succ]
      go_big_quiet_on
      go_big_quiet_want
      go_big_quiet_op
      first | go_big_quiet_on | (refine ⟨_, fun _ _ => rfl, ?_⟩; go_big_quiet_on)
      go_big_quiet_want
      go_big_quiet_op
      first | go_big_quiet_on | (refine ⟨_, fun _ _ => rfl, ?_⟩; go_big_quiet_on)
      intro v9 hv9
      have HB9 := Lib.hid (HBF.out.trans ((HCi.out v9 hv9).mono HBF.out.size))
      clear hv9
      go_wp2_with (fail)
      go_ret
      exact ⟨rfl, HB9.out⟩
end Go.Proofs.YtaachlijpgmjeaaDoor
