/- The statements of who may: told, and kinds. -/
import Derived.Test.YtememccaiimgbaaDoorAcE
namespace Go.Proofs.YtememccaiimgbaaDoor
open Go.RowKit
set_option maxRecDepth 100000 in
set_option maxHeartbeats 4000000 in
theorem tells_any (A : Option Addr) (c : Nat) (t : Tl) (h : ByteArray) (op : Int) (w : World) (hl : Rgs w A t.rs) (hm : t.rs.length ≤ maxLen) (ht : RTab w) :
    Calls Tryd.prog 3 #[tlV A c t, .string h, .int .i64 op] w fun e w' => e = .returned (.bool true) ∧ Below w.heap.size w w' := by
  obtain ⟨h1, h2, h3⟩ := tl_box w A c t _ rfl
  have HT := Lib.hid h1; have HB := Lib.hid h2
  have HL := Lib.hid (hl.below h2); have HTb := Lib.hid (ht.below h2)
  have HM := Lib.hid hm
  have hnt := not_true
  have hnf := not_false
  clear h1 h2 h3 hl hm ht
  go_enter Tryd.func3, Tryd.ntmps3
  go_upto_region 1 with (fail)
  change Code.wp _ _ _ _ (w.alloc (.cells (tlC A c t) 27))
  generalize w.alloc (.cells (tlC A c t) 27) = w0 at *
  have c0 : w0.cell? ⟨w.heap.size, 0, none⟩ = some (.slice A t.rs.length c) := HT.out.cell 0
  have c1 : w0.cell? ⟨w.heap.size, 1, none⟩ = some (.int .i64 t.ty) := HT.out.cell 1
  have c2 : w0.cell? ⟨w.heap.size, 2, none⟩ = some (.string t.ho) := HT.out.cell 2
  have c3 : w0.cell? ⟨w.heap.size, 3, none⟩ = some (.int .u32 t.ge) := HT.out.cell 3
  have c4 : w0.cell? ⟨w.heap.size, 4, none⟩ = some (.bool t.ap) := HT.out.cell 4
  go_wp2_with (fail)
  refine (large_any A c t _ HL.out HM.out).mono ?_; rintro e w1 ⟨r, rfl, hr, hb1⟩
  have HB1 := Lib.hid (HB.out.trans (hb1.mono HB.out.size)); have HT1 := Lib.hid (HT.out.below hb1 HT.out.lt); have HL1 := Lib.hid (HL.out.below hb1); have HTb1 := Lib.hid (HTb.out.below hb1)
  have HR := Lib.hid hr
  clear hb1 hr c0 c1 c2 c3 c4
  cases r with
  | true =>
    go_wp2_with (fail)
    refine (wakes_any _ HTb1.out).mono ?_; rintro e w9 ⟨rfl, hb9⟩
    have HB9 := Lib.hid (HB1.out.trans (hb9.mono HB1.out.size)); clear hb9
    go_wp2_with (fail)
    go_ret
    exact ⟨rfl, HB9.out⟩
  | false =>
    have HN := Lib.hid (HR.out rfl)
    clear HR
    by_cases g1 : 1000 < h.size
    · have i1 : (1000 : Int) < h.size := by omega
      clear g1
      go_wp2_with (fail)
      refine (wakes_any _ HTb1.out).mono ?_; rintro e w9 ⟨rfl, hb9⟩
      have HB9 := Lib.hid (HB1.out.trans (hb9.mono HB1.out.size)); clear hb9
      go_wp2_with (fail)
      go_ret
      exact ⟨rfl, HB9.out⟩
    · have i1 : ¬ (1000 : Int) < h.size := by omega
      clear g1
      have c0 : w1.cell? ⟨w.heap.size, 0, none⟩ = some (.slice A t.rs.length c) := HT1.out.cell 0
      have c1 : w1.cell? ⟨w.heap.size, 1, none⟩ = some (.int .i64 t.ty) := HT1.out.cell 1
      have c2 : w1.cell? ⟨w.heap.size, 2, none⟩ = some (.string t.ho) := HT1.out.cell 2
      have c3 : w1.cell? ⟨w.heap.size, 3, none⟩ = some (.int .u32 t.ge) := HT1.out.cell 3
      have c4 : w1.cell? ⟨w.heap.size, 4, none⟩ = some (.bool t.ap) := HT1.out.cell 4
      go_wp2_with (fail)
      refine (copy_any A c t _ HL1.out (by have := HN.out; omega)).mono ?_; rintro e w1c ⟨A2, cc, rfl, ho, hb⟩
      have HB2c := Lib.hid (HB1.out.trans (hb.mono HB1.out.size)); have HT2c := Lib.hid (HT1.out.below hb HT1.out.lt); have HL2c := Lib.hid (HL1.out.below hb); have HTb2c := Lib.hid (HTb1.out.below hb); have HO2c := Lib.hid ho; have HX2 := Lib.hid hb
      clear ho hb c0 c1 c2 c3 c4
      go_upto_region 4 with (fail)
      change Code.wp _ _ _ _ (w1c.alloc (.cells (tlC A2 cc t) 27))
      have hbx : ∀ V, V = w1c.alloc (.cells (tlC A2 cc t) 27) → Blk V w1c.heap.size 27 (tlC A2 cc t) ∧ Below w1c.heap.size w1c V := by
        rintro V rfl
        exact ⟨Blk.new _ _ _, (Below.refl _ _).alloc (Nat.le_refl _) _⟩
      obtain ⟨k1, k2⟩ := hbx _ rfl
      have HI2 := Lib.hid k1; have HB2 := Lib.hid (HB2c.out.trans (k2.mono HB2c.out.size)); have HT2 := Lib.hid (HT2c.out.below k2 HT2c.out.lt); have HL2 := Lib.hid (HL2c.out.below k2); have HTb2 := Lib.hid (HTb2c.out.below k2); have HO2 := Lib.hid (HO2c.out.below k2); have HY2 := Lib.hid k2
      clear k1 k2 hbx
      generalize w1c.alloc (.cells (tlC A2 cc t) 27) = w2 at *
      obtain ⟨C, hC0, hCl, hCi, hCm⟩ := class_of w2 (fun v => TlAt v w.heap.size A c t ∧ TlAt v w1c.heap.size A2 cc t) (fun v hb => ⟨TlAt.below HT2.out hb, TlAt.below HI2.out hb⟩)
      have HC0 := Lib.hid hC0; have HLL := Lib.hid hCl; have HCi := Lib.hid hCi; have HCm := Lib.hid hCm
      have HR1 := Lib.hid (fun v (hv : C v) => HL2.out.below (hCi v hv)); have HR2 := Lib.hid (fun v (hv : C v) => HO2.out.rgs.below (hCi v hv)); have HRT := Lib.hid (fun v (hv : C v) => HTb2.out.below (hCi v hv))
      clear hC0 hCl hCi hCm
      have HcA := Lib.hid (fun v (h1 : Rgs v A2 t.rs) (h2 : RTab v) => holds_any A2 cc t h v h1 HM.out h2)
      have HcB := Lib.hid (fun v (h1 : Rgs v A t.rs) => refHolds_any A c t h v h1 HM.out)
      have HcC := Lib.hid (fun v (h1 : Rgs v A2 t.rs) (h2 : RTab v) => may_any A2 cc t h op v h1 HM.out h2)
      have HcD := Lib.hid (fun v (h1 : Rgs v A t.rs) => refMay_any A c t h op v h1 HM.out)
      have HcE := Lib.hid (fun v (h1 : Rgs v A2 t.rs) (h2 : Rgs v A t.rs) => tables_same A2 A cc c t v h1 h2 (by have := HN.out; omega))
      generalize holdsB t h = q1 at *
      generalize mayB t h op = q2 at *
      refine wp_region_class C (by kernel_rfl) (by kernel_rfl) HC0.out ?_
      go_big_quiet_want
      refine quiet_run (v := tlV A2 cc t) (fun v hv => by obtain ⟨⟨c0, c1, c2, c3, c4⟩, d0, d1, d2, d3, d4⟩ := HLL.out v hv; go_simp) ?_
      simp only [Act.put, List.setIfInBounds_toArray, List.set_cons_zero, List.set_cons_succ]
      go_big_quiet_on
      go_big_quiet_want
      go_big_quiet_op
      first | go_big_quiet_on | (refine ⟨_, fun _ _ => rfl, ?_⟩; go_big_quiet_on)
      go_big_quiet_want
      refine quiet_call (f := 11) (args := #[tlV A2 cc t, .string h]) (fun v _ => by go_simp) (fun v hv => (HcA.out v (HR2.out v hv) (HRT.out v hv)).mono (fun e w' h => ⟨h.1, HCm.out v w' hv h.2⟩)) ?_
      simp only [Act.put, List.setIfInBounds_toArray, List.set_cons_zero, List.set_cons_succ]
      go_big_quiet_on
      go_big_quiet_want
      refine quiet_run (v := tlV A c t) (fun v hv => by obtain ⟨⟨c0, c1, c2, c3, c4⟩, d0, d1, d2, d3, d4⟩ := HLL.out v hv; go_simp) ?_
      simp only [Act.put, List.setIfInBounds_toArray, List.set_cons_zero, List.set_cons_succ]
      go_big_quiet_on
      go_big_quiet_want
      go_big_quiet_op
      first | go_big_quiet_on | (refine ⟨_, fun _ _ => rfl, ?_⟩; go_big_quiet_on)
      go_big_quiet_want
      refine quiet_call (f := 12) (args := #[tlV A c t, .string h]) (fun v _ => by go_simp) (fun v hv => (HcB.out v (HR1.out v hv)).mono (fun e w' h => ⟨h.1, HCm.out v w' hv h.2⟩)) ?_
      simp only [Act.put, List.setIfInBounds_toArray, List.set_cons_zero, List.set_cons_succ]
      go_big_quiet_on
      go_big_quiet_want
      refine quiet_run (v := .bool true) (fun v hv => by cases q1 <;> rfl) ?_
      simp only [Act.put, List.setIfInBounds_toArray, List.set_cons_zero, List.set_cons_succ]
      go_big_quiet_on
      go_big_quiet_want
      go_big_quiet_op
      first | go_big_quiet_on | (refine ⟨_, fun _ _ => rfl, ?_⟩; go_big_quiet_on)
      go_big_quiet_want
      refine quiet_run (v := tlV A2 cc t) (fun v hv => by obtain ⟨⟨c0, c1, c2, c3, c4⟩, d0, d1, d2, d3, d4⟩ := HLL.out v hv; go_simp) ?_
      simp only [Act.put, List.setIfInBounds_toArray, List.set_cons_zero, List.set_cons_succ]
      go_big_quiet_on
      go_big_quiet_want
      go_big_quiet_op
      first | go_big_quiet_on | (refine ⟨_, fun _ _ => rfl, ?_⟩; go_big_quiet_on)
      go_big_quiet_want
      go_big_quiet_op
      first | go_big_quiet_on | (refine ⟨_, fun _ _ => rfl, ?_⟩; go_big_quiet_on)
      go_big_quiet_want
      refine quiet_call (f := 13) (args := #[tlV A2 cc t, .string h, .int .i64 op]) (fun v _ => by go_simp) (fun v hv => (HcC.out v (HR2.out v hv) (HRT.out v hv)).mono (fun e w' h => ⟨h.1, HCm.out v w' hv h.2⟩)) ?_
      simp only [Act.put, List.setIfInBounds_toArray, List.set_cons_zero, List.set_cons_succ]
      go_big_quiet_on
      go_big_quiet_want
      refine quiet_run (v := tlV A c t) (fun v hv => by obtain ⟨⟨c0, c1, c2, c3, c4⟩, d0, d1, d2, d3, d4⟩ := HLL.out v hv; go_simp) ?_
      simp only [Act.put, List.setIfInBounds_toArray, List.set_cons_zero, List.set_cons_succ]
      go_big_quiet_on
      go_big_quiet_want
      go_big_quiet_op
      first | go_big_quiet_on | (refine ⟨_, fun _ _ => rfl, ?_⟩; go_big_quiet_on)
      go_big_quiet_want
      go_big_quiet_op
      first | go_big_quiet_on | (refine ⟨_, fun _ _ => rfl, ?_⟩; go_big_quiet_on)
      go_big_quiet_want
      refine quiet_call (f := 14) (args := #[tlV A c t, .string h, .int .i64 op]) (fun v _ => by go_simp) (fun v hv => (HcD.out v (HR1.out v hv)).mono (fun e w' h => ⟨h.1, HCm.out v w' hv h.2⟩)) ?_
      simp only [Act.put, List.setIfInBounds_toArray, List.set_cons_zero, List.set_cons_succ]
      go_big_quiet_on
      go_big_quiet_want
      refine quiet_run (v := .bool true) (fun v hv => by cases q2 <;> rfl) ?_
      simp only [Act.put, List.setIfInBounds_toArray, List.set_cons_zero, List.set_cons_succ]
      go_big_quiet_on
      go_big_quiet_want
      go_big_quiet_op
      first | go_big_quiet_on | (refine ⟨_, fun _ _ => rfl, ?_⟩; go_big_quiet_on)
      go_big_quiet_want
      go_big_quiet_op
      first | go_big_quiet_on | (refine ⟨_, fun _ _ => rfl, ?_⟩; go_big_quiet_on)
      go_big_quiet_want
      refine quiet_run (v := tlV A2 cc t) (fun v hv => by obtain ⟨⟨c0, c1, c2, c3, c4⟩, d0, d1, d2, d3, d4⟩ := HLL.out v hv; go_simp) ?_
      simp only [Act.put, List.setIfInBounds_toArray, List.set_cons_zero, List.set_cons_succ]
      go_big_quiet_on
      go_big_quiet_want
      refine quiet_run (v := tlV A c t) (fun v hv => by obtain ⟨⟨c0, c1, c2, c3, c4⟩, d0, d1, d2, d3, d4⟩ := HLL.out v hv; go_simp) ?_
      simp only [Act.put, List.setIfInBounds_toArray, List.set_cons_zero, List.set_cons_succ]
      go_big_quiet_on
      go_big_quiet_want
      refine quiet_call (f := 15) (args := #[tlV A2 cc t, tlV A c t]) (fun v _ => by go_simp) (fun v hv => (HcE.out v (HR2.out v hv) (HR1.out v hv)).mono (fun e w' h => ⟨h.1, HCm.out v w' hv h.2⟩)) ?_
      simp only [Act.put, List.setIfInBounds_toArray, List.set_cons_zero, List.set_cons_succ]
      go_big_quiet_on
      go_big_quiet_want
      go_big_quiet_op
      first | go_big_quiet_on | (refine ⟨_, fun _ _ => rfl, ?_⟩; go_big_quiet_on)
      go_big_quiet_want
      go_big_quiet_op
      first | go_big_quiet_on | (refine ⟨_, fun _ _ => rfl, ?_⟩; go_big_quiet_on)
      go_big_quiet_want
      refine quiet_call (f := 9) (args := #[]) (fun v _ => by go_simp) (fun v hv => (wakes_any v (HRT.out v hv)).mono (fun e w' h => ⟨h.1, HCm.out v w' hv h.2⟩)) ?_
      simp only [Act.put, List.setIfInBounds_toArray, List.set_cons_zero, List.set_cons_succ]
      go_big_quiet_on
      go_big_quiet_want
      go_big_quiet_op
      first | go_big_quiet_on | (refine ⟨_, fun _ _ => rfl, ?_⟩; go_big_quiet_on)
      go_big_quiet_want
      go_big_quiet_op
      first | go_big_quiet_on | (refine ⟨_, fun _ _ => rfl, ?_⟩; go_big_quiet_on)
      refine wpQuiet_nil ?_
      intro w5 hC5
      have HB5 := Lib.hid (HB2.out.trans ((HCi.out _ hC5).mono HB2.out.size))
      clear hC5
      go_wp2_with (fail)
      go_ret
      exact ⟨rfl, HB5.out⟩
set_option maxRecDepth 100000 in
set_option maxHeartbeats 4000000 in
theorem kinds_any (n : Int) (w : World) (ht : RTab w) :
    Calls Tryd.prog 4 #[.int .i64 n] w fun e w' => e = .returned (.bool true) ∧ Below w.heap.size w w' := by
  have HT := Lib.hid ht; clear ht
  have hrc : (readsB n && changesB n) = false := by
    unfold readsB changesB
    by_cases h : n = 2
    · subst h; decide
    · rw [decide_eq_false h]; rfl
  have HA := Lib.hid (fun v => type_any n v); have HB := Lib.hid (fun v => refType_any n v)
  have HC := Lib.hid (fun v => reads_any n v); have HD := Lib.hid (fun v => refReads_any n v)
  have HE := Lib.hid (fun v => changes_any n v); have HF := Lib.hid (fun v => refChanges_any n v)
  generalize typeB n = q1 at *
  generalize readsB n = q2 at *
  generalize changesB n = q3 at *
  have hnt := not_true
  have hnf := not_false
  have e1 : (q1 == q1) = true := by simp
  have e2 : (q2 == q2) = true := by simp
  have e3 : (q3 == q3) = true := by simp
  have HRC := Lib.hid hrc; clear hrc
  cases q2 with
  | false =>
    go_enter Tryd.func4, Tryd.ntmps4
    go_wp2_with (fail)
    refine (HA.out _).mono ?_; rintro e w1 ⟨rfl, rfl⟩
    go_wp2_with (fail)
    refine (HB.out _).mono ?_; rintro e w1 ⟨rfl, rfl⟩
    go_wp2_with (fail)
    refine (HC.out _).mono ?_; rintro e w1 ⟨rfl, rfl⟩
    go_wp2_with (fail)
    refine (HD.out _).mono ?_; rintro e w1 ⟨rfl, rfl⟩
    go_wp2_with (fail)
    refine (HE.out _).mono ?_; rintro e w1 ⟨rfl, rfl⟩
    go_wp2_with (fail)
    refine (HF.out _).mono ?_; rintro e w1 ⟨rfl, rfl⟩
    go_wp2_with (fail)
    refine (HC.out _).mono ?_; rintro e w1 ⟨rfl, rfl⟩
    go_wp2_with (fail)
    refine (wakes_any _ HT.out).mono ?_; rintro e w9 ⟨rfl, hb9⟩
    have HB9 := Lib.hid hb9; clear hb9
    go_wp2_with (fail)
    go_ret
    exact ⟨rfl, HB9.out⟩
  | true =>
    obtain rfl : q3 = false := by simpa using HRC.out
    go_enter Tryd.func4, Tryd.ntmps4
    go_wp2_with (fail)
    refine (HA.out _).mono ?_; rintro e w1 ⟨rfl, rfl⟩
    go_wp2_with (fail)
    refine (HB.out _).mono ?_; rintro e w1 ⟨rfl, rfl⟩
    go_wp2_with (fail)
    refine (HC.out _).mono ?_; rintro e w1 ⟨rfl, rfl⟩
    go_wp2_with (fail)
    refine (HD.out _).mono ?_; rintro e w1 ⟨rfl, rfl⟩
    go_wp2_with (fail)
    refine (HE.out _).mono ?_; rintro e w1 ⟨rfl, rfl⟩
    go_wp2_with (fail)
    refine (HF.out _).mono ?_; rintro e w1 ⟨rfl, rfl⟩
    go_wp2_with (fail)
    refine (HC.out _).mono ?_; rintro e w1 ⟨rfl, rfl⟩
    go_wp2_with (fail)
    refine (HE.out _).mono ?_; rintro e w1 ⟨rfl, rfl⟩
    go_wp2_with (fail)
    refine (wakes_any _ HT.out).mono ?_; rintro e w9 ⟨rfl, hb9⟩
    have HB9 := Lib.hid hb9; clear hb9
    go_wp2_with (fail)
    go_ret
    exact ⟨rfl, HB9.out⟩
end Go.Proofs.YtememccaiimgbaaDoor
