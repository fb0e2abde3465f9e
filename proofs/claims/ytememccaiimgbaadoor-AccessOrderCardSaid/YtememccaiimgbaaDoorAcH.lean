/- The statement of the order. -/
import Derived.Test.YtememccaiimgbaaDoorAcE
namespace Go.Proofs.YtememccaiimgbaaDoor
open Go.RowKit
theorem may_32 {t : Tl} {h : ByteArray} (h3 : mayB t h 3 = true) : mayB t h 2 = true := by
  cases hn : typeB t.ty with
  | false => exact mayB_no t h 2 hn
  | true =>
    cases hh : holdsB t h with
    | true => exact mayB_holds t h 2 hh
    | false =>
      have hb := of_decide_eq_true hn
      have hk := kindN_of t.ty hn
      rw [mayB_changes t h 3 (by decide +kernel) (by decide +kernel) hh, hk] at h3
      rw [mayB_reads t h 2 (by decide +kernel) hh, hk]
      rcases (show t.ty = 1 ∨ t.ty = 2 ∨ t.ty = 3 ∨ t.ty = 4 ∨ t.ty = 5 ∨ t.ty = 6 by omega) with q | q | q | q | q | q <;> rw [q] at h3 ⊢
      · rfl
      · exact h3
      · rfl
      · exact h3
      · rfl
      · exact h3
theorem may_ch {t : Tl} {h : ByteArray} {op : Int} (hc : changesB op = true) : mayB t h op = mayB t h 3 := by
  have hr : readsB op = false := by
    have := of_decide_eq_true hc
    exact decide_eq_false (by omega)
  rw [mayB_eq, mayB_eq, oth_changes _ op hr hc, oth_changes _ 3 (by decide +kernel) (by decide +kernel)]
abbrev freeT (t : Tl) : Tl := ⟨t.rs, 0, ⟨#[]⟩, t.ge, t.ap⟩
theorem free_may (t : Tl) (h : ByteArray) (op : Int) : mayB (freeT t) h op = true := mayB_no _ _ _ rfl
theorem free_holds (t : Tl) (h : ByteArray) : holdsB (freeT t) h = false := rfl
set_option maxRecDepth 100000 in
set_option maxHeartbeats 4000000 in
theorem order_any (A : Option Addr) (c : Nat) (t : Tl) (h : ByteArray) (w : World) (hl : Rgs w A t.rs) (hm : t.rs.length ≤ maxLen) (ht : RTab w) :
    Calls Tryd.prog 5 #[tlV A c t, .string h] w fun e w' => e = .returned (.bool true) ∧ Below w.heap.size w w' := by
  obtain ⟨h1, h2, h3⟩ := tl_box w A c t _ rfl
  have HT := Lib.hid h1; have HB := Lib.hid h2
  have HL := Lib.hid (hl.below h2); have HTb := Lib.hid (ht.below h2)
  have HM := Lib.hid hm
  have hnt := not_true
  have hnf := not_false
  clear h1 h2 h3 hl hm ht
  go_enter Tryd.func5, Tryd.ntmps5
  go_upto_region 1 with (fail)
  change Code.wp _ _ _ _ (w.alloc (.cells (tlC A c t) 27))
  generalize w.alloc (.cells (tlC A c t) 27) = w0 at *
  have c0 : w0.cell? ⟨w.heap.size, 0, none⟩ = some (.slice A t.rs.length c) := HT.out.cell 0
  have c1 : w0.cell? ⟨w.heap.size, 1, none⟩ = some (.int .i64 t.ty) := HT.out.cell 1
  have c2 : w0.cell? ⟨w.heap.size, 2, none⟩ = some (.string t.ho) := HT.out.cell 2
  have c3 : w0.cell? ⟨w.heap.size, 3, none⟩ = some (.int .u32 t.ge) := HT.out.cell 3
  have c4 : w0.cell? ⟨w.heap.size, 4, none⟩ = some (.bool t.ap) := HT.out.cell 4
  go_wp2_with (fail)
  refine (large_any A c t _ HL.out HM.out).mono ?_; rintro e w1 ⟨r, rfl, hr, hb1⟩
  have HB1 := Lib.hid (HB.out.trans (hb1.mono HB.out.size)); have HT1 := Lib.hid (HT.out.below hb1 HT.out.lt); have HL1 := Lib.hid (HL.out.below hb1); have HTb1 := Lib.hid (HTb.out.below hb1)
  have HR := Lib.hid hr
  clear hb1 hr c0 c1 c2 c3 c4
  cases r with
  | true =>
    go_wp2_with (fail)
    refine (wakes_any _ HTb1.out).mono ?_; rintro e w9 ⟨rfl, hb9⟩
    have HB9 := Lib.hid (HB1.out.trans (hb9.mono HB1.out.size)); clear hb9
    go_wp2_with (fail)
    go_ret
    exact ⟨rfl, HB9.out⟩
  | false =>
    have HN := Lib.hid (HR.out rfl)
    clear HR
    by_cases g1 : 1000 < h.size
    · have i1 : (1000 : Int) < h.size := by omega
      clear g1
      go_wp2_with (fail)
      refine (wakes_any _ HTb1.out).mono ?_; rintro e w9 ⟨rfl, hb9⟩
      have HB9 := Lib.hid (HB1.out.trans (hb9.mono HB1.out.size)); clear hb9
      go_wp2_with (fail)
      go_ret
      exact ⟨rfl, HB9.out⟩
    · have i1 : ¬ (1000 : Int) < h.size := by omega
      clear g1
      have c0 : w1.cell? ⟨w.heap.size, 0, none⟩ = some (.slice A t.rs.length c) := HT1.out.cell 0
      have c1 : w1.cell? ⟨w.heap.size, 1, none⟩ = some (.int .i64 t.ty) := HT1.out.cell 1
      have c2 : w1.cell? ⟨w.heap.size, 2, none⟩ = some (.string t.ho) := HT1.out.cell 2
      have c3 : w1.cell? ⟨w.heap.size, 3, none⟩ = some (.int .u32 t.ge) := HT1.out.cell 3
      have c4 : w1.cell? ⟨w.heap.size, 4, none⟩ = some (.bool t.ap) := HT1.out.cell 4
      go_wp2_with (fail)
      refine (copy_any A c t _ HL1.out (by have := HN.out; omega)).mono ?_; rintro e w1c ⟨A2, cc, rfl, ho, hb⟩
      have HB2c := Lib.hid (HB1.out.trans (hb.mono HB1.out.size)); have HT2c := Lib.hid (HT1.out.below hb HT1.out.lt); have HL2c := Lib.hid (HL1.out.below hb); have HTb2c := Lib.hid (HTb1.out.below hb); have HO2c := Lib.hid ho; have HX2 := Lib.hid hb
      clear ho hb c0 c1 c2 c3 c4
      go_upto_region 4 with (fail)
      change Code.wp _ _ _ _ (w1c.alloc (.cells (tlC A2 cc t) 27))
      have hbx : ∀ V, V = w1c.alloc (.cells (tlC A2 cc t) 27) → Blk V w1c.heap.size 27 (tlC A2 cc t) ∧ Below w1c.heap.size w1c V := by
        rintro V rfl
        exact ⟨Blk.new _ _ _, (Below.refl _ _).alloc (Nat.le_refl _) _⟩
      obtain ⟨k1, k2⟩ := hbx _ rfl
      have HI2 := Lib.hid k1; have HB2 := Lib.hid (HB2c.out.trans (k2.mono HB2c.out.size)); have HT2 := Lib.hid (HT2c.out.below k2 HT2c.out.lt); have HL2 := Lib.hid (HL2c.out.below k2); have HTb2 := Lib.hid (HTb2c.out.below k2); have HO2 := Lib.hid (HO2c.out.below k2); have HY2 := Lib.hid k2
      clear k1 k2 hbx
      generalize w1c.alloc (.cells (tlC A2 cc t) 27) = w2 at *
      have c0 : w2.cell? ⟨w.heap.size, 0, none⟩ = some (.slice A t.rs.length c) := HT2.out.cell 0
      have c1 : w2.cell? ⟨w.heap.size, 1, none⟩ = some (.int .i64 t.ty) := HT2.out.cell 1
      have c2 : w2.cell? ⟨w.heap.size, 2, none⟩ = some (.string t.ho) := HT2.out.cell 2
      have c3 : w2.cell? ⟨w.heap.size, 3, none⟩ = some (.int .u32 t.ge) := HT2.out.cell 3
      have c4 : w2.cell? ⟨w.heap.size, 4, none⟩ = some (.bool t.ap) := HT2.out.cell 4
      go_wp2_with (fail)
      refine (copy_any A c t _ HL2.out (by have := HN.out; omega)).mono ?_; rintro e w2c ⟨A3, ce, rfl, ho, hb⟩
      have HB3c := Lib.hid (HB2.out.trans (hb.mono HB2.out.size)); have HT3c := Lib.hid (HT2.out.below hb HT2.out.lt); have HL3c := Lib.hid (HL2.out.below hb); have HTb3c := Lib.hid (HTb2.out.below hb); have HO3c := Lib.hid ho; have HX3 := Lib.hid hb
      clear ho hb c0 c1 c2 c3 c4
      go_upto_region 5 with (fail)
      change Code.wp _ _ _ _ (w2c.alloc (.cells (tlC A3 ce t) 27))
      have hbx : ∀ V, V = w2c.alloc (.cells (tlC A3 ce t) 27) → Blk V w2c.heap.size 27 (tlC A3 ce t) ∧ Below w2c.heap.size w2c V := by
        rintro V rfl
        exact ⟨Blk.new _ _ _, (Below.refl _ _).alloc (Nat.le_refl _) _⟩
      obtain ⟨k1, k2⟩ := hbx _ rfl
      have HI3 := Lib.hid k1; have HB3 := Lib.hid (HB3c.out.trans (k2.mono HB3c.out.size)); have HT3 := Lib.hid (HT3c.out.below k2 HT3c.out.lt); have HL3 := Lib.hid (HL3c.out.below k2); have HTb3 := Lib.hid (HTb3c.out.below k2); have HO3 := Lib.hid (HO3c.out.below k2); have HY3 := Lib.hid k2
      clear k1 k2 hbx
      generalize w2c.alloc (.cells (tlC A3 ce t) 27) = w3 at *
      have kb : ∀ v : World, (Instr.build 24 #[]).run Tryd.prog v = .ok (.agg #[.int .i64 0, .string ⟨#[]⟩]) v := fun _ => by kernel_rfl
      have c0 : w3.cell? ⟨w2c.heap.size, 0, none⟩ = some (.slice A3 t.rs.length ce) := HI3.out.cell 0
      have c1 : w3.cell? ⟨w2c.heap.size, 1, none⟩ = some (.int .i64 t.ty) := HI3.out.cell 1
      have c2 : w3.cell? ⟨w2c.heap.size, 2, none⟩ = some (.string t.ho) := HI3.out.cell 2
      have c3 : w3.cell? ⟨w2c.heap.size, 3, none⟩ = some (.int .u32 t.ge) := HI3.out.cell 3
      have c4 : w3.cell? ⟨w2c.heap.size, 4, none⟩ = some (.bool t.ap) := HI3.out.cell 4
      have f1 := HI3.out.free 1
      have f2 := HI3.out.free 2
      go_upto_region 6 with (fail)
      clear f1 f2 c0 c1 c2 c3 c4 kb
      have hV : ∀ V, V = (w3.setCell ⟨w2c.heap.size, 1, none⟩ (.int .i64 0)).setCell ⟨w2c.heap.size, 2, none⟩ (.string ⟨#[]⟩) → Blk V w2c.heap.size 27 (tlC A3 ce (freeT t)) ∧ Below w2c.heap.size w2c V := by
        rintro V rfl
        exact ⟨(HI3.out.put 1 _).put 2 _, (HY3.out.setCell (Nat.le_refl _) _).setCell (Nat.le_refl _) _⟩
      obtain ⟨v1, v2⟩ := hV _ rfl
      have HK4 := Lib.hid v1; have HZ4 := Lib.hid v2
      clear v1 v2 hV
      change Code.wp _ _ _ _ ((w3.setCell ⟨w2c.heap.size, 1, none⟩ (.int .i64 0)).setCell ⟨w2c.heap.size, 2, none⟩ (.string ⟨#[]⟩))
      generalize (w3.setCell ⟨w2c.heap.size, 1, none⟩ (.int .i64 0)).setCell ⟨w2c.heap.size, 2, none⟩ (.string ⟨#[]⟩) = w4 at *
      have HD4 := Lib.hid (show Below w2.heap.size w2 w4 from HX3.out.trans (HZ4.out.mono HX3.out.size))
      have HB4 := Lib.hid (HB2.out.trans (HD4.out.mono HB2.out.size)); have HTb4 := Lib.hid (HTb2.out.below HD4.out)
      have HI4 := Lib.hid (HI2.out.below HD4.out HI2.out.lt); have HO4 := Lib.hid (HO2.out.rgs.below HD4.out); have HP4 := Lib.hid (HO3c.out.rgs.below HZ4.out)
      go_wp2_with (fail)
      go_loopw [7] (fun i wr => ∃ k : Nat, k ≤ 17 ∧ i = .int .i64 k ∧ Hid (Below w4.heap.size w4 wr)) (fun i _ => 17 - (intOf i).toNat)
      case atStart => exact ⟨0, by omega, rfl, Lib.hid (Below.refl _ _)⟩
      case round =>
        obtain ⟨k, hk, rfl, HW⟩ := hrel
        have HIr := Lib.hid (HI4.out.below HW.out HI4.out.lt); have HKr := Lib.hid (HK4.out.below HW.out HK4.out.lt)
        have HOr := Lib.hid (HO4.out.below HW.out); have HPr := Lib.hid (HP4.out.below HW.out); have HTr := Lib.hid (HTb4.out.below HW.out)
        by_cases hlt : k ≤ 16
        · have hlt' : (k : Int) ≤ 16 := by omega
          obtain ⟨C, hC0, hCl, hCi, hCm⟩ := class_of wr (fun v => TlAt v w1c.heap.size A2 cc t ∧ TlAt v w2c.heap.size A3 ce (freeT t)) (fun v hb => ⟨TlAt.below HIr.out hb, TlAt.below HKr.out hb⟩)
          have HC0 := Lib.hid hC0; have HLL := Lib.hid hCl; have HCi := Lib.hid hCi; have HCm := Lib.hid hCm
          have HR2 := Lib.hid (fun v (hv : C v) => HOr.out.below (hCi v hv)); have HR3 := Lib.hid (fun v (hv : C v) => HPr.out.below (hCi v hv)); have HRT := Lib.hid (fun v (hv : C v) => HTr.out.below (hCi v hv))
          clear hC0 hCl hCi hCm
          have Hm3 := Lib.hid (fun v (h1 : Rgs v A2 t.rs) (h2 : RTab v) => may_any A2 cc t h 3 v h1 HM.out h2)
          have Hm2 := Lib.hid (fun v (h1 : Rgs v A2 t.rs) (h2 : RTab v) => may_any A2 cc t h 2 v h1 HM.out h2)
          have Hmk := Lib.hid (fun v (h1 : Rgs v A2 t.rs) (h2 : RTab v) => may_any A2 cc t h (k : Int) v h1 HM.out h2)
          have Hho := Lib.hid (fun v (h1 : Rgs v A2 t.rs) (h2 : RTab v) => holds_any A2 cc t h v h1 HM.out h2)
          have Hfr := Lib.hid (fun v (h1 : Rgs v A3 (freeT t).rs) (h2 : RTab v) => may_any A3 ce (freeT t) h (k : Int) v h1 HM.out h2)
          have Hch := Lib.hid (fun v => changes_any (k : Int) v)
          rw [free_may] at Hfr
          cases qh : holdsB t h with
          | true =>
            rw [mayB_holds t h 3 qh] at Hm3
            rw [mayB_holds t h 2 qh] at Hm2
            rw [mayB_holds t h (k : Int) qh] at Hmk
            rw [qh] at Hho
            clear qh
            cases ch : changesB (k : Int) with
            | true =>
              rw [ch] at Hch
              clear ch
              go_upto_region 9 with (fail)
              refine wp_region_class C (by kernel_rfl) (by kernel_rfl) HC0.out ?_
              go_big_quiet_want
              refine quiet_run (v := tlV A2 cc t) (fun v hv => by obtain ⟨⟨c0, c1, c2, c3, c4⟩, d0, d1, d2, d3, d4⟩ := HLL.out v hv; go_simp) ?_
              simp only [Act.put, List.setIfInBounds_toArray, List.set_cons_zero, List.set_cons_succ]
              go_big_quiet_on
              go_big_quiet_want
              go_big_quiet_op
              first | go_big_quiet_on | (refine ⟨_, fun _ _ => rfl, ?_⟩; go_big_quiet_on)
              go_big_quiet_want
              refine quiet_call (f := 13) (args := #[tlV A2 cc t, .string h, .int .i64 3]) (fun v _ => by go_simp) (fun v hv => (Hm3.out v (HR2.out v hv) (HRT.out v hv)).mono (fun e w' h => ⟨h.1, HCm.out v w' hv h.2⟩)) ?_
              simp only [Act.put, List.setIfInBounds_toArray, List.set_cons_zero, List.set_cons_succ]
              go_big_quiet_on
              go_big_quiet_want
              go_big_quiet_op
              first | go_big_quiet_on | (refine ⟨_, fun _ _ => rfl, ?_⟩; go_big_quiet_on)
              go_big_quiet_want
              refine quiet_run (v := tlV A2 cc t) (fun v hv => by obtain ⟨⟨c0, c1, c2, c3, c4⟩, d0, d1, d2, d3, d4⟩ := HLL.out v hv; go_simp) ?_
              simp only [Act.put, List.setIfInBounds_toArray, List.set_cons_zero, List.set_cons_succ]
              go_big_quiet_on
              go_big_quiet_want
              go_big_quiet_op
              first | go_big_quiet_on | (refine ⟨_, fun _ _ => rfl, ?_⟩; go_big_quiet_on)
              go_big_quiet_want
              refine quiet_call (f := 13) (args := #[tlV A2 cc t, .string h, .int .i64 2]) (fun v _ => by go_simp) (fun v hv => (Hm2.out v (HR2.out v hv) (HRT.out v hv)).mono (fun e w' h => ⟨h.1, HCm.out v w' hv h.2⟩)) ?_
              simp only [Act.put, List.setIfInBounds_toArray, List.set_cons_zero, List.set_cons_succ]
              go_big_quiet_on
              go_big_quiet_want
              go_big_quiet_op
              first | go_big_quiet_on | (refine ⟨_, fun _ _ => rfl, ?_⟩; go_big_quiet_on)
              go_big_quiet_want
              go_big_quiet_op
              first | go_big_quiet_on | (refine ⟨_, fun _ _ => rfl, ?_⟩; go_big_quiet_on)
              go_big_quiet_want
              go_big_quiet_op
              first | go_big_quiet_on | (refine ⟨_, fun _ _ => rfl, ?_⟩; go_big_quiet_on)
              go_big_quiet_want
              refine quiet_run (v := tlV A2 cc t) (fun v hv => by obtain ⟨⟨c0, c1, c2, c3, c4⟩, d0, d1, d2, d3, d4⟩ := HLL.out v hv; go_simp) ?_
              simp only [Act.put, List.setIfInBounds_toArray, List.set_cons_zero, List.set_cons_succ]
              go_big_quiet_on
              go_big_quiet_want
              go_big_quiet_op
              first | go_big_quiet_on | (refine ⟨_, fun _ _ => rfl, ?_⟩; go_big_quiet_on)
              go_big_quiet_want
              refine quiet_call (f := 11) (args := #[tlV A2 cc t, .string h]) (fun v _ => by go_simp) (fun v hv => (Hho.out v (HR2.out v hv) (HRT.out v hv)).mono (fun e w' h => ⟨h.1, HCm.out v w' hv h.2⟩)) ?_
              simp only [Act.put, List.setIfInBounds_toArray, List.set_cons_zero, List.set_cons_succ]
              go_big_quiet_on
              go_big_quiet_want
              go_big_quiet_op
              first | go_big_quiet_on | (refine ⟨_, fun _ _ => rfl, ?_⟩; go_big_quiet_on)
              go_big_quiet_want
              refine quiet_run (v := tlV A2 cc t) (fun v hv => by obtain ⟨⟨c0, c1, c2, c3, c4⟩, d0, d1, d2, d3, d4⟩ := HLL.out v hv; go_simp) ?_
              simp only [Act.put, List.setIfInBounds_toArray, List.set_cons_zero, List.set_cons_succ]
              go_big_quiet_on
              go_big_quiet_want
              go_big_quiet_op
              first | go_big_quiet_on | (refine ⟨_, fun _ _ => rfl, ?_⟩; go_big_quiet_on)
              go_big_quiet_want
              go_big_quiet_op
              first | go_big_quiet_on | (refine ⟨_, fun _ _ => rfl, ?_⟩; go_big_quiet_on)
              go_big_quiet_want
              refine quiet_call (f := 13) (args := #[tlV A2 cc t, .string h, .int .i64 (k : Int)]) (fun v _ => by go_simp) (fun v hv => (Hmk.out v (HR2.out v hv) (HRT.out v hv)).mono (fun e w' h => ⟨h.1, HCm.out v w' hv h.2⟩)) ?_
              simp only [Act.put, List.setIfInBounds_toArray, List.set_cons_zero, List.set_cons_succ]
              go_big_quiet_on
              go_big_quiet_want
              go_big_quiet_op
              first | go_big_quiet_on | (refine ⟨_, fun _ _ => rfl, ?_⟩; go_big_quiet_on)
              go_big_quiet_want
              go_big_quiet_op
              first | go_big_quiet_on | (refine ⟨_, fun _ _ => rfl, ?_⟩; go_big_quiet_on)
              go_big_quiet_want
              go_big_quiet_op
              first | go_big_quiet_on | (refine ⟨_, fun _ _ => rfl, ?_⟩; go_big_quiet_on)
              go_big_quiet_want
              go_big_quiet_op
              first | go_big_quiet_on | (refine ⟨_, fun _ _ => rfl, ?_⟩; go_big_quiet_on)
              go_big_quiet_want
              refine quiet_run (v := tlV A3 ce (freeT t)) (fun v hv => by obtain ⟨⟨c0, c1, c2, c3, c4⟩, d0, d1, d2, d3, d4⟩ := HLL.out v hv; go_simp) ?_
              simp only [Act.put, List.setIfInBounds_toArray, List.set_cons_zero, List.set_cons_succ]
              go_big_quiet_on
              go_big_quiet_want
              go_big_quiet_op
              first | go_big_quiet_on | (refine ⟨_, fun _ _ => rfl, ?_⟩; go_big_quiet_on)
              go_big_quiet_want
              go_big_quiet_op
              first | go_big_quiet_on | (refine ⟨_, fun _ _ => rfl, ?_⟩; go_big_quiet_on)
              go_big_quiet_want
              refine quiet_call (f := 13) (args := #[tlV A3 ce (freeT t), .string h, .int .i64 (k : Int)]) (fun v _ => by go_simp) (fun v hv => (Hfr.out v (HR3.out v hv) (HRT.out v hv)).mono (fun e w' h => ⟨h.1, HCm.out v w' hv h.2⟩)) ?_
              simp only [Act.put, List.setIfInBounds_toArray, List.set_cons_zero, List.set_cons_succ]
              go_big_quiet_on
              go_big_quiet_want
              go_big_quiet_op
              first | go_big_quiet_on | (refine ⟨_, fun _ _ => rfl, ?_⟩; go_big_quiet_on)
              go_big_quiet_want
              go_big_quiet_op
              first | go_big_quiet_on | (refine ⟨_, fun _ _ => rfl, ?_⟩; go_big_quiet_on)
              go_big_quiet_want
              go_big_quiet_op
              first | go_big_quiet_on | (refine ⟨_, fun _ _ => rfl, ?_⟩; go_big_quiet_on)
              go_big_quiet_want
              go_big_quiet_op
              first | go_big_quiet_on | (refine ⟨_, fun _ _ => rfl, ?_⟩; go_big_quiet_on)
              go_big_quiet_want
              refine quiet_call (f := 20) (args := #[.int .i64 (k : Int)]) (fun v _ => by go_simp) (fun v hv => (Hch.out v).mono (fun e w' h => ⟨h.1, h.2 ▸ hv⟩)) ?_
              simp only [Act.put, List.setIfInBounds_toArray, List.set_cons_zero, List.set_cons_succ]
              go_big_quiet_on
              go_big_quiet_want
              go_big_quiet_op
              first | go_big_quiet_on | (refine ⟨_, fun _ _ => rfl, ?_⟩; go_big_quiet_on)
              go_big_quiet_want
              refine quiet_run (v := tlV A2 cc t) (fun v hv => by obtain ⟨⟨c0, c1, c2, c3, c4⟩, d0, d1, d2, d3, d4⟩ := HLL.out v hv; go_simp) ?_
              simp only [Act.put, List.setIfInBounds_toArray, List.set_cons_zero, List.set_cons_succ]
              go_big_quiet_on
              go_big_quiet_want
              go_big_quiet_op
              first | go_big_quiet_on | (refine ⟨_, fun _ _ => rfl, ?_⟩; go_big_quiet_on)
              go_big_quiet_want
              go_big_quiet_op
              first | go_big_quiet_on | (refine ⟨_, fun _ _ => rfl, ?_⟩; go_big_quiet_on)
              go_big_quiet_want
              refine quiet_call (f := 13) (args := #[tlV A2 cc t, .string h, .int .i64 (k : Int)]) (fun v _ => by go_simp) (fun v hv => (Hmk.out v (HR2.out v hv) (HRT.out v hv)).mono (fun e w' h => ⟨h.1, HCm.out v w' hv h.2⟩)) ?_
              simp only [Act.put, List.setIfInBounds_toArray, List.set_cons_zero, List.set_cons_succ]
              go_big_quiet_on
              go_big_quiet_want
              refine quiet_run (v := tlV A2 cc t) (fun v hv => by obtain ⟨⟨c0, c1, c2, c3, c4⟩, d0, d1, d2, d3, d4⟩ := HLL.out v hv; go_simp) ?_
              simp only [Act.put, List.setIfInBounds_toArray, List.set_cons_zero, List.set_cons_succ]
              go_big_quiet_on
              go_big_quiet_want
              go_big_quiet_op
              first | go_big_quiet_on | (refine ⟨_, fun _ _ => rfl, ?_⟩; go_big_quiet_on)
              go_big_quiet_want
              refine quiet_call (f := 13) (args := #[tlV A2 cc t, .string h, .int .i64 3]) (fun v _ => by go_simp) (fun v hv => (Hm3.out v (HR2.out v hv) (HRT.out v hv)).mono (fun e w' h => ⟨h.1, HCm.out v w' hv h.2⟩)) ?_
              simp only [Act.put, List.setIfInBounds_toArray, List.set_cons_zero, List.set_cons_succ]
              go_big_quiet_on
              go_big_quiet_want
              go_big_quiet_op
              first | go_big_quiet_on | (refine ⟨_, fun _ _ => rfl, ?_⟩; go_big_quiet_on)
              go_big_quiet_want
              go_big_quiet_op
              first | go_big_quiet_on | (refine ⟨_, fun _ _ => rfl, ?_⟩; go_big_quiet_on)
              go_big_quiet_want
              go_big_quiet_op
              first | go_big_quiet_on | (refine ⟨_, fun _ _ => rfl, ?_⟩; go_big_quiet_on)
              refine wpQuiet_nil ?_
              intro w5 hC5
              have HB5 := Lib.hid (HW.out.trans ((HCi.out _ hC5).mono HW.out.size))
              clear hC5
              go_wp2_with (fail)
              go_roundw
              case rel => exact ⟨k + 1, by omega, by go_num, HB5⟩
              case measure => simp [intOf]; omega
            | false =>
              rw [ch] at Hch
              clear ch
              go_upto_region 9 with (fail)
              refine wp_region_class C (by kernel_rfl) (by kernel_rfl) HC0.out ?_
              go_big_quiet_want
              refine quiet_run (v := tlV A2 cc t) (fun v hv => by obtain ⟨⟨c0, c1, c2, c3, c4⟩, d0, d1, d2, d3, d4⟩ := HLL.out v hv; go_simp) ?_
              simp only [Act.put, List.setIfInBounds_toArray, List.set_cons_zero, List.set_cons_succ]
              go_big_quiet_on
              go_big_quiet_want
              go_big_quiet_op
              first | go_big_quiet_on | (refine ⟨_, fun _ _ => rfl, ?_⟩; go_big_quiet_on)
              go_big_quiet_want
              refine quiet_call (f := 13) (args := #[tlV A2 cc t, .string h, .int .i64 3]) (fun v _ => by go_simp) (fun v hv => (Hm3.out v (HR2.out v hv) (HRT.out v hv)).mono (fun e w' h => ⟨h.1, HCm.out v w' hv h.2⟩)) ?_
              simp only [Act.put, List.setIfInBounds_toArray, List.set_cons_zero, List.set_cons_succ]
              go_big_quiet_on
              go_big_quiet_want
              go_big_quiet_op
              first | go_big_quiet_on | (refine ⟨_, fun _ _ => rfl, ?_⟩; go_big_quiet_on)
              go_big_quiet_want
              refine quiet_run (v := tlV A2 cc t) (fun v hv => by obtain ⟨⟨c0, c1, c2, c3, c4⟩, d0, d1, d2, d3, d4⟩ := HLL.out v hv; go_simp) ?_
              simp only [Act.put, List.setIfInBounds_toArray, List.set_cons_zero, List.set_cons_succ]
              go_big_quiet_on
              go_big_quiet_want
              go_big_quiet_op
              first | go_big_quiet_on | (refine ⟨_, fun _ _ => rfl, ?_⟩; go_big_quiet_on)
              go_big_quiet_want
              refine quiet_call (f := 13) (args := #[tlV A2 cc t, .string h, .int .i64 2]) (fun v _ => by go_simp) (fun v hv => (Hm2.out v (HR2.out v hv) (HRT.out v hv)).mono (fun e w' h => ⟨h.1, HCm.out v w' hv h.2⟩)) ?_
              simp only [Act.put, List.setIfInBounds_toArray, List.set_cons_zero, List.set_cons_succ]
              go_big_quiet_on
              go_big_quiet_want
              go_big_quiet_op
              first | go_big_quiet_on | (refine ⟨_, fun _ _ => rfl, ?_⟩; go_big_quiet_on)
              go_big_quiet_want
              go_big_quiet_op
              first | go_big_quiet_on | (refine ⟨_, fun _ _ => rfl, ?_⟩; go_big_quiet_on)
              go_big_quiet_want
              go_big_quiet_op
              first | go_big_quiet_on | (refine ⟨_, fun _ _ => rfl, ?_⟩; go_big_quiet_on)
              go_big_quiet_want
              refine quiet_run (v := tlV A2 cc t) (fun v hv => by obtain ⟨⟨c0, c1, c2, c3, c4⟩, d0, d1, d2, d3, d4⟩ := HLL.out v hv; go_simp) ?_
              simp only [Act.put, List.setIfInBounds_toArray, List.set_cons_zero, List.set_cons_succ]
              go_big_quiet_on
              go_big_quiet_want
              go_big_quiet_op
              first | go_big_quiet_on | (refine ⟨_, fun _ _ => rfl, ?_⟩; go_big_quiet_on)
              go_big_quiet_want
              refine quiet_call (f := 11) (args := #[tlV A2 cc t, .string h]) (fun v _ => by go_simp) (fun v hv => (Hho.out v (HR2.out v hv) (HRT.out v hv)).mono (fun e w' h => ⟨h.1, HCm.out v w' hv h.2⟩)) ?_
              simp only [Act.put, List.setIfInBounds_toArray, List.set_cons_zero, List.set_cons_succ]
              go_big_quiet_on
              go_big_quiet_want
              go_big_quiet_op
              first | go_big_quiet_on | (refine ⟨_, fun _ _ => rfl, ?_⟩; go_big_quiet_on)
              go_big_quiet_want
              refine quiet_run (v := tlV A2 cc t) (fun v hv => by obtain ⟨⟨c0, c1, c2, c3, c4⟩, d0, d1, d2, d3, d4⟩ := HLL.out v hv; go_simp) ?_
              simp only [Act.put, List.setIfInBounds_toArray, List.set_cons_zero, List.set_cons_succ]
              go_big_quiet_on
              go_big_quiet_want
              go_big_quiet_op
              first | go_big_quiet_on | (refine ⟨_, fun _ _ => rfl, ?_⟩; go_big_quiet_on)
              go_big_quiet_want
              go_big_quiet_op
              first | go_big_quiet_on | (refine ⟨_, fun _ _ => rfl, ?_⟩; go_big_quiet_on)
              go_big_quiet_want
              refine quiet_call (f := 13) (args := #[tlV A2 cc t, .string h, .int .i64 (k : Int)]) (fun v _ => by go_simp) (fun v hv => (Hmk.out v (HR2.out v hv) (HRT.out v hv)).mono (fun e w' h => ⟨h.1, HCm.out v w' hv h.2⟩)) ?_
              simp only [Act.put, List.setIfInBounds_toArray, List.set_cons_zero, List.set_cons_succ]
              go_big_quiet_on
              go_big_quiet_want
              go_big_quiet_op
              first | go_big_quiet_on | (refine ⟨_, fun _ _ => rfl, ?_⟩; go_big_quiet_on)
              go_big_quiet_want
              go_big_quiet_op
              first | go_big_quiet_on | (refine ⟨_, fun _ _ => rfl, ?_⟩; go_big_quiet_on)
              go_big_quiet_want
              go_big_quiet_op
              first | go_big_quiet_on | (refine ⟨_, fun _ _ => rfl, ?_⟩; go_big_quiet_on)
              go_big_quiet_want
              go_big_quiet_op
              first | go_big_quiet_on | (refine ⟨_, fun _ _ => rfl, ?_⟩; go_big_quiet_on)
              go_big_quiet_want
              refine quiet_run (v := tlV A3 ce (freeT t)) (fun v hv => by obtain ⟨⟨c0, c1, c2, c3, c4⟩, d0, d1, d2, d3, d4⟩ := HLL.out v hv; go_simp) ?_
              simp only [Act.put, List.setIfInBounds_toArray, List.set_cons_zero, List.set_cons_succ]
              go_big_quiet_on
              go_big_quiet_want
              go_big_quiet_op
              first | go_big_quiet_on | (refine ⟨_, fun _ _ => rfl, ?_⟩; go_big_quiet_on)
              go_big_quiet_want
              go_big_quiet_op
              first | go_big_quiet_on | (refine ⟨_, fun _ _ => rfl, ?_⟩; go_big_quiet_on)
              go_big_quiet_want
              refine quiet_call (f := 13) (args := #[tlV A3 ce (freeT t), .string h, .int .i64 (k : Int)]) (fun v _ => by go_simp) (fun v hv => (Hfr.out v (HR3.out v hv) (HRT.out v hv)).mono (fun e w' h => ⟨h.1, HCm.out v w' hv h.2⟩)) ?_
              simp only [Act.put, List.setIfInBounds_toArray, List.set_cons_zero, List.set_cons_succ]
              go_big_quiet_on
              go_big_quiet_want
              go_big_quiet_op
              first | go_big_quiet_on | (refine ⟨_, fun _ _ => rfl, ?_⟩; go_big_quiet_on)
              go_big_quiet_want
              go_big_quiet_op
              first | go_big_quiet_on | (refine ⟨_, fun _ _ => rfl, ?_⟩; go_big_quiet_on)
              go_big_quiet_want
              go_big_quiet_op
              first | go_big_quiet_on | (refine ⟨_, fun _ _ => rfl, ?_⟩; go_big_quiet_on)
              go_big_quiet_want
              go_big_quiet_op
              first | go_big_quiet_on | (refine ⟨_, fun _ _ => rfl, ?_⟩; go_big_quiet_on)
              go_big_quiet_want
              refine quiet_call (f := 20) (args := #[.int .i64 (k : Int)]) (fun v _ => by go_simp) (fun v hv => (Hch.out v).mono (fun e w' h => ⟨h.1, h.2 ▸ hv⟩)) ?_
              simp only [Act.put, List.setIfInBounds_toArray, List.set_cons_zero, List.set_cons_succ]
              go_big_quiet_on
              go_big_quiet_want
              go_big_quiet_op
              first | go_big_quiet_on | (refine ⟨_, fun _ _ => rfl, ?_⟩; go_big_quiet_on)
              go_big_quiet_skip
              go_big_quiet_skip
              go_big_quiet_skip
              go_big_quiet_skip
              go_big_quiet_skip
              go_big_quiet_skip
              go_big_quiet_skip
              go_big_quiet_skip
              go_big_quiet_want
              go_big_quiet_op
              first | go_big_quiet_on | (refine ⟨_, fun _ _ => rfl, ?_⟩; go_big_quiet_on)
              go_big_quiet_want
              go_big_quiet_op
              first | go_big_quiet_on | (refine ⟨_, fun _ _ => rfl, ?_⟩; go_big_quiet_on)
              refine wpQuiet_nil ?_
              intro w5 hC5
              have HB5 := Lib.hid (HW.out.trans ((HCi.out _ hC5).mono HW.out.size))
              clear hC5
              go_wp2_with (fail)
              go_roundw
              case rel => exact ⟨k + 1, by omega, by go_num, HB5⟩
              case measure => simp [intOf]; omega
          | false =>
            rw [qh] at Hho
            clear qh
            cases q3 : mayB t h 3 with
            | true =>
              rw [q3] at Hm3
              rw [may_32 q3] at Hm2
              cases ch : changesB (k : Int) with
              | true =>
                rw [ch] at Hch
                rw [may_ch ch, q3] at Hmk
                clear ch q3
                go_upto_region 9 with (fail)
                refine wp_region_class C (by kernel_rfl) (by kernel_rfl) HC0.out ?_
                go_big_quiet_want
                refine quiet_run (v := tlV A2 cc t) (fun v hv => by obtain ⟨⟨c0, c1, c2, c3, c4⟩, d0, d1, d2, d3, d4⟩ := HLL.out v hv; go_simp) ?_
                simp only [Act.put, List.setIfInBounds_toArray, List.set_cons_zero, List.set_cons_succ]
                go_big_quiet_on
                go_big_quiet_want
                go_big_quiet_op
                first | go_big_quiet_on | (refine ⟨_, fun _ _ => rfl, ?_⟩; go_big_quiet_on)
                go_big_quiet_want
                refine quiet_call (f := 13) (args := #[tlV A2 cc t, .string h, .int .i64 3]) (fun v _ => by go_simp) (fun v hv => (Hm3.out v (HR2.out v hv) (HRT.out v hv)).mono (fun e w' h => ⟨h.1, HCm.out v w' hv h.2⟩)) ?_
                simp only [Act.put, List.setIfInBounds_toArray, List.set_cons_zero, List.set_cons_succ]
                go_big_quiet_on
                go_big_quiet_want
                go_big_quiet_op
                first | go_big_quiet_on | (refine ⟨_, fun _ _ => rfl, ?_⟩; go_big_quiet_on)
                go_big_quiet_want
                refine quiet_run (v := tlV A2 cc t) (fun v hv => by obtain ⟨⟨c0, c1, c2, c3, c4⟩, d0, d1, d2, d3, d4⟩ := HLL.out v hv; go_simp) ?_
                simp only [Act.put, List.setIfInBounds_toArray, List.set_cons_zero, List.set_cons_succ]
                go_big_quiet_on
                go_big_quiet_want
                go_big_quiet_op
                first | go_big_quiet_on | (refine ⟨_, fun _ _ => rfl, ?_⟩; go_big_quiet_on)
                go_big_quiet_want
                refine quiet_call (f := 13) (args := #[tlV A2 cc t, .string h, .int .i64 2]) (fun v _ => by go_simp) (fun v hv => (Hm2.out v (HR2.out v hv) (HRT.out v hv)).mono (fun e w' h => ⟨h.1, HCm.out v w' hv h.2⟩)) ?_
                simp only [Act.put, List.setIfInBounds_toArray, List.set_cons_zero, List.set_cons_succ]
                go_big_quiet_on
                go_big_quiet_want
                go_big_quiet_op
                first | go_big_quiet_on | (refine ⟨_, fun _ _ => rfl, ?_⟩; go_big_quiet_on)
                go_big_quiet_want
                go_big_quiet_op
                first | go_big_quiet_on | (refine ⟨_, fun _ _ => rfl, ?_⟩; go_big_quiet_on)
                go_big_quiet_want
                go_big_quiet_op
                first | go_big_quiet_on | (refine ⟨_, fun _ _ => rfl, ?_⟩; go_big_quiet_on)
                go_big_quiet_want
                refine quiet_run (v := tlV A2 cc t) (fun v hv => by obtain ⟨⟨c0, c1, c2, c3, c4⟩, d0, d1, d2, d3, d4⟩ := HLL.out v hv; go_simp) ?_
                simp only [Act.put, List.setIfInBounds_toArray, List.set_cons_zero, List.set_cons_succ]
                go_big_quiet_on
                go_big_quiet_want
                go_big_quiet_op
                first | go_big_quiet_on | (refine ⟨_, fun _ _ => rfl, ?_⟩; go_big_quiet_on)
                go_big_quiet_want
                refine quiet_call (f := 11) (args := #[tlV A2 cc t, .string h]) (fun v _ => by go_simp) (fun v hv => (Hho.out v (HR2.out v hv) (HRT.out v hv)).mono (fun e w' h => ⟨h.1, HCm.out v w' hv h.2⟩)) ?_
                simp only [Act.put, List.setIfInBounds_toArray, List.set_cons_zero, List.set_cons_succ]
                go_big_quiet_on
                go_big_quiet_want
                go_big_quiet_op
                first | go_big_quiet_on | (refine ⟨_, fun _ _ => rfl, ?_⟩; go_big_quiet_on)
                go_big_quiet_skip
                go_big_quiet_skip
                go_big_quiet_skip
                go_big_quiet_skip
                go_big_quiet_skip
                go_big_quiet_want
                go_big_quiet_op
                first | go_big_quiet_on | (refine ⟨_, fun _ _ => rfl, ?_⟩; go_big_quiet_on)
                go_big_quiet_want
                go_big_quiet_op
                first | go_big_quiet_on | (refine ⟨_, fun _ _ => rfl, ?_⟩; go_big_quiet_on)
                go_big_quiet_want
                go_big_quiet_op
                first | go_big_quiet_on | (refine ⟨_, fun _ _ => rfl, ?_⟩; go_big_quiet_on)
                go_big_quiet_want
                refine quiet_run (v := tlV A3 ce (freeT t)) (fun v hv => by obtain ⟨⟨c0, c1, c2, c3, c4⟩, d0, d1, d2, d3, d4⟩ := HLL.out v hv; go_simp) ?_
                simp only [Act.put, List.setIfInBounds_toArray, List.set_cons_zero, List.set_cons_succ]
                go_big_quiet_on
                go_big_quiet_want
                go_big_quiet_op
                first | go_big_quiet_on | (refine ⟨_, fun _ _ => rfl, ?_⟩; go_big_quiet_on)
                go_big_quiet_want
                go_big_quiet_op
                first | go_big_quiet_on | (refine ⟨_, fun _ _ => rfl, ?_⟩; go_big_quiet_on)
                go_big_quiet_want
                refine quiet_call (f := 13) (args := #[tlV A3 ce (freeT t), .string h, .int .i64 (k : Int)]) (fun v _ => by go_simp) (fun v hv => (Hfr.out v (HR3.out v hv) (HRT.out v hv)).mono (fun e w' h => ⟨h.1, HCm.out v w' hv h.2⟩)) ?_
                simp only [Act.put, List.setIfInBounds_toArray, List.set_cons_zero, List.set_cons_succ]
                go_big_quiet_on
                go_big_quiet_want
                go_big_quiet_op
                first | go_big_quiet_on | (refine ⟨_, fun _ _ => rfl, ?_⟩; go_big_quiet_on)
                go_big_quiet_want
                go_big_quiet_op
                first | go_big_quiet_on | (refine ⟨_, fun _ _ => rfl, ?_⟩; go_big_quiet_on)
                go_big_quiet_want
                go_big_quiet_op
                first | go_big_quiet_on | (refine ⟨_, fun _ _ => rfl, ?_⟩; go_big_quiet_on)
                go_big_quiet_want
                go_big_quiet_op
                first | go_big_quiet_on | (refine ⟨_, fun _ _ => rfl, ?_⟩; go_big_quiet_on)
                go_big_quiet_want
                refine quiet_call (f := 20) (args := #[.int .i64 (k : Int)]) (fun v _ => by go_simp) (fun v hv => (Hch.out v).mono (fun e w' h => ⟨h.1, h.2 ▸ hv⟩)) ?_
                simp only [Act.put, List.setIfInBounds_toArray, List.set_cons_zero, List.set_cons_succ]
                go_big_quiet_on
                go_big_quiet_want
                go_big_quiet_op
                first | go_big_quiet_on | (refine ⟨_, fun _ _ => rfl, ?_⟩; go_big_quiet_on)
                go_big_quiet_want
                refine quiet_run (v := tlV A2 cc t) (fun v hv => by obtain ⟨⟨c0, c1, c2, c3, c4⟩, d0, d1, d2, d3, d4⟩ := HLL.out v hv; go_simp) ?_
                simp only [Act.put, List.setIfInBounds_toArray, List.set_cons_zero, List.set_cons_succ]
                go_big_quiet_on
                go_big_quiet_want
                go_big_quiet_op
                first | go_big_quiet_on | (refine ⟨_, fun _ _ => rfl, ?_⟩; go_big_quiet_on)
                go_big_quiet_want
                go_big_quiet_op
                first | go_big_quiet_on | (refine ⟨_, fun _ _ => rfl, ?_⟩; go_big_quiet_on)
                go_big_quiet_want
                refine quiet_call (f := 13) (args := #[tlV A2 cc t, .string h, .int .i64 (k : Int)]) (fun v _ => by go_simp) (fun v hv => (Hmk.out v (HR2.out v hv) (HRT.out v hv)).mono (fun e w' h => ⟨h.1, HCm.out v w' hv h.2⟩)) ?_
                simp only [Act.put, List.setIfInBounds_toArray, List.set_cons_zero, List.set_cons_succ]
                go_big_quiet_on
                go_big_quiet_want
                refine quiet_run (v := tlV A2 cc t) (fun v hv => by obtain ⟨⟨c0, c1, c2, c3, c4⟩, d0, d1, d2, d3, d4⟩ := HLL.out v hv; go_simp) ?_
                simp only [Act.put, List.setIfInBounds_toArray, List.set_cons_zero, List.set_cons_succ]
                go_big_quiet_on
                go_big_quiet_want
                go_big_quiet_op
                first | go_big_quiet_on | (refine ⟨_, fun _ _ => rfl, ?_⟩; go_big_quiet_on)
                go_big_quiet_want
                refine quiet_call (f := 13) (args := #[tlV A2 cc t, .string h, .int .i64 3]) (fun v _ => by go_simp) (fun v hv => (Hm3.out v (HR2.out v hv) (HRT.out v hv)).mono (fun e w' h => ⟨h.1, HCm.out v w' hv h.2⟩)) ?_
                simp only [Act.put, List.setIfInBounds_toArray, List.set_cons_zero, List.set_cons_succ]
                go_big_quiet_on
                go_big_quiet_want
                go_big_quiet_op
                first | go_big_quiet_on | (refine ⟨_, fun _ _ => rfl, ?_⟩; go_big_quiet_on)
                go_big_quiet_want
                go_big_quiet_op
                first | go_big_quiet_on | (refine ⟨_, fun _ _ => rfl, ?_⟩; go_big_quiet_on)
                go_big_quiet_want
                go_big_quiet_op
                first | go_big_quiet_on | (refine ⟨_, fun _ _ => rfl, ?_⟩; go_big_quiet_on)
                refine wpQuiet_nil ?_
                intro w5 hC5
                have HB5 := Lib.hid (HW.out.trans ((HCi.out _ hC5).mono HW.out.size))
                clear hC5
                go_wp2_with (fail)
                go_roundw
                case rel => exact ⟨k + 1, by omega, by go_num, HB5⟩
                case measure => simp [intOf]; omega
              | false =>
                rw [ch] at Hch
                clear ch q3
                go_upto_region 9 with (fail)
                refine wp_region_class C (by kernel_rfl) (by kernel_rfl) HC0.out ?_
                go_big_quiet_want
                refine quiet_run (v := tlV A2 cc t) (fun v hv => by obtain ⟨⟨c0, c1, c2, c3, c4⟩, d0, d1, d2, d3, d4⟩ := HLL.out v hv; go_simp) ?_
                simp only [Act.put, List.setIfInBounds_toArray, List.set_cons_zero, List.set_cons_succ]
                go_big_quiet_on
                go_big_quiet_want
                go_big_quiet_op
                first | go_big_quiet_on | (refine ⟨_, fun _ _ => rfl, ?_⟩; go_big_quiet_on)
                go_big_quiet_want
                refine quiet_call (f := 13) (args := #[tlV A2 cc t, .string h, .int .i64 3]) (fun v _ => by go_simp) (fun v hv => (Hm3.out v (HR2.out v hv) (HRT.out v hv)).mono (fun e w' h => ⟨h.1, HCm.out v w' hv h.2⟩)) ?_
                simp only [Act.put, List.setIfInBounds_toArray, List.set_cons_zero, List.set_cons_succ]
                go_big_quiet_on
                go_big_quiet_want
                go_big_quiet_op
                first | go_big_quiet_on | (refine ⟨_, fun _ _ => rfl, ?_⟩; go_big_quiet_on)
                go_big_quiet_want
                refine quiet_run (v := tlV A2 cc t) (fun v hv => by obtain ⟨⟨c0, c1, c2, c3, c4⟩, d0, d1, d2, d3, d4⟩ := HLL.out v hv; go_simp) ?_
                simp only [Act.put, List.setIfInBounds_toArray, List.set_cons_zero, List.set_cons_succ]
                go_big_quiet_on
                go_big_quiet_want
                go_big_quiet_op
                first | go_big_quiet_on | (refine ⟨_, fun _ _ => rfl, ?_⟩; go_big_quiet_on)
                go_big_quiet_want
                refine quiet_call (f := 13) (args := #[tlV A2 cc t, .string h, .int .i64 2]) (fun v _ => by go_simp) (fun v hv => (Hm2.out v (HR2.out v hv) (HRT.out v hv)).mono (fun e w' h => ⟨h.1, HCm.out v w' hv h.2⟩)) ?_
                simp only [Act.put, List.setIfInBounds_toArray, List.set_cons_zero, List.set_cons_succ]
                go_big_quiet_on
                go_big_quiet_want
                go_big_quiet_op
                first | go_big_quiet_on | (refine ⟨_, fun _ _ => rfl, ?_⟩; go_big_quiet_on)
                go_big_quiet_want
                go_big_quiet_op
                first | go_big_quiet_on | (refine ⟨_, fun _ _ => rfl, ?_⟩; go_big_quiet_on)
                go_big_quiet_want
                go_big_quiet_op
                first | go_big_quiet_on | (refine ⟨_, fun _ _ => rfl, ?_⟩; go_big_quiet_on)
                go_big_quiet_want
                refine quiet_run (v := tlV A2 cc t) (fun v hv => by obtain ⟨⟨c0, c1, c2, c3, c4⟩, d0, d1, d2, d3, d4⟩ := HLL.out v hv; go_simp) ?_
                simp only [Act.put, List.setIfInBounds_toArray, List.set_cons_zero, List.set_cons_succ]
                go_big_quiet_on
                go_big_quiet_want
                go_big_quiet_op
                first | go_big_quiet_on | (refine ⟨_, fun _ _ => rfl, ?_⟩; go_big_quiet_on)
                go_big_quiet_want
                refine quiet_call (f := 11) (args := #[tlV A2 cc t, .string h]) (fun v _ => by go_simp) (fun v hv => (Hho.out v (HR2.out v hv) (HRT.out v hv)).mono (fun e w' h => ⟨h.1, HCm.out v w' hv h.2⟩)) ?_
                simp only [Act.put, List.setIfInBounds_toArray, List.set_cons_zero, List.set_cons_succ]
                go_big_quiet_on
                go_big_quiet_want
                go_big_quiet_op
                first | go_big_quiet_on | (refine ⟨_, fun _ _ => rfl, ?_⟩; go_big_quiet_on)
                go_big_quiet_skip
                go_big_quiet_skip
                go_big_quiet_skip
                go_big_quiet_skip
                go_big_quiet_skip
                go_big_quiet_want
                go_big_quiet_op
                first | go_big_quiet_on | (refine ⟨_, fun _ _ => rfl, ?_⟩; go_big_quiet_on)
                go_big_quiet_want
                go_big_quiet_op
                first | go_big_quiet_on | (refine ⟨_, fun _ _ => rfl, ?_⟩; go_big_quiet_on)
                go_big_quiet_want
                go_big_quiet_op
                first | go_big_quiet_on | (refine ⟨_, fun _ _ => rfl, ?_⟩; go_big_quiet_on)
                go_big_quiet_want
                refine quiet_run (v := tlV A3 ce (freeT t)) (fun v hv => by obtain ⟨⟨c0, c1, c2, c3, c4⟩, d0, d1, d2, d3, d4⟩ := HLL.out v hv; go_simp) ?_
                simp only [Act.put, List.setIfInBounds_toArray, List.set_cons_zero, List.set_cons_succ]
                go_big_quiet_on
                go_big_quiet_want
                go_big_quiet_op
                first | go_big_quiet_on | (refine ⟨_, fun _ _ => rfl, ?_⟩; go_big_quiet_on)
                go_big_quiet_want
                go_big_quiet_op
                first | go_big_quiet_on | (refine ⟨_, fun _ _ => rfl, ?_⟩; go_big_quiet_on)
                go_big_quiet_want
                refine quiet_call (f := 13) (args := #[tlV A3 ce (freeT t), .string h, .int .i64 (k : Int)]) (fun v _ => by go_simp) (fun v hv => (Hfr.out v (HR3.out v hv) (HRT.out v hv)).mono (fun e w' h => ⟨h.1, HCm.out v w' hv h.2⟩)) ?_
                simp only [Act.put, List.setIfInBounds_toArray, List.set_cons_zero, List.set_cons_succ]
                go_big_quiet_on
                go_big_quiet_want
                go_big_quiet_op
                first | go_big_quiet_on | (refine ⟨_, fun _ _ => rfl, ?_⟩; go_big_quiet_on)
                go_big_quiet_want
                go_big_quiet_op
                first | go_big_quiet_on | (refine ⟨_, fun _ _ => rfl, ?_⟩; go_big_quiet_on)
                go_big_quiet_want
                go_big_quiet_op
                first | go_big_quiet_on | (refine ⟨_, fun _ _ => rfl, ?_⟩; go_big_quiet_on)
                go_big_quiet_want
                go_big_quiet_op
                first | go_big_quiet_on | (refine ⟨_, fun _ _ => rfl, ?_⟩; go_big_quiet_on)
                go_big_quiet_want
                refine quiet_call (f := 20) (args := #[.int .i64 (k : Int)]) (fun v _ => by go_simp) (fun v hv => (Hch.out v).mono (fun e w' h => ⟨h.1, h.2 ▸ hv⟩)) ?_
                simp only [Act.put, List.setIfInBounds_toArray, List.set_cons_zero, List.set_cons_succ]
                go_big_quiet_on
                go_big_quiet_want
                go_big_quiet_op
                first | go_big_quiet_on | (refine ⟨_, fun _ _ => rfl, ?_⟩; go_big_quiet_on)
                go_big_quiet_skip
                go_big_quiet_skip
                go_big_quiet_skip
                go_big_quiet_skip
                go_big_quiet_skip
                go_big_quiet_skip
                go_big_quiet_skip
                go_big_quiet_skip
                go_big_quiet_want
                go_big_quiet_op
                first | go_big_quiet_on | (refine ⟨_, fun _ _ => rfl, ?_⟩; go_big_quiet_on)
                go_big_quiet_want
                go_big_quiet_op
                first | go_big_quiet_on | (refine ⟨_, fun _ _ => rfl, ?_⟩; go_big_quiet_on)
                refine wpQuiet_nil ?_
                intro w5 hC5
                have HB5 := Lib.hid (HW.out.trans ((HCi.out _ hC5).mono HW.out.size))
                clear hC5
                go_wp2_with (fail)
                go_roundw
                case rel => exact ⟨k + 1, by omega, by go_num, HB5⟩
                case measure => simp [intOf]; omega
            | false =>
              rw [q3] at Hm3
              cases ch : changesB (k : Int) with
              | true =>
                rw [ch] at Hch
                rw [may_ch ch, q3] at Hmk
                clear ch q3
                go_upto_region 9 with (fail)
                refine wp_region_class C (by kernel_rfl) (by kernel_rfl) HC0.out ?_
                go_big_quiet_want
                refine quiet_run (v := tlV A2 cc t) (fun v hv => by obtain ⟨⟨c0, c1, c2, c3, c4⟩, d0, d1, d2, d3, d4⟩ := HLL.out v hv; go_simp) ?_
                simp only [Act.put, List.setIfInBounds_toArray, List.set_cons_zero, List.set_cons_succ]
                go_big_quiet_on
                go_big_quiet_want
                go_big_quiet_op
                first | go_big_quiet_on | (refine ⟨_, fun _ _ => rfl, ?_⟩; go_big_quiet_on)
                go_big_quiet_want
                refine quiet_call (f := 13) (args := #[tlV A2 cc t, .string h, .int .i64 3]) (fun v _ => by go_simp) (fun v hv => (Hm3.out v (HR2.out v hv) (HRT.out v hv)).mono (fun e w' h => ⟨h.1, HCm.out v w' hv h.2⟩)) ?_
                simp only [Act.put, List.setIfInBounds_toArray, List.set_cons_zero, List.set_cons_succ]
                go_big_quiet_on
                go_big_quiet_want
                go_big_quiet_op
                first | go_big_quiet_on | (refine ⟨_, fun _ _ => rfl, ?_⟩; go_big_quiet_on)
                go_big_quiet_skip
                go_big_quiet_skip
                go_big_quiet_skip
                go_big_quiet_skip
                go_big_quiet_want
                go_big_quiet_op
                first | go_big_quiet_on | (refine ⟨_, fun _ _ => rfl, ?_⟩; go_big_quiet_on)
                go_big_quiet_want
                go_big_quiet_op
                first | go_big_quiet_on | (refine ⟨_, fun _ _ => rfl, ?_⟩; go_big_quiet_on)
                go_big_quiet_want
                refine quiet_run (v := tlV A2 cc t) (fun v hv => by obtain ⟨⟨c0, c1, c2, c3, c4⟩, d0, d1, d2, d3, d4⟩ := HLL.out v hv; go_simp) ?_
                simp only [Act.put, List.setIfInBounds_toArray, List.set_cons_zero, List.set_cons_succ]
                go_big_quiet_on
                go_big_quiet_want
                go_big_quiet_op
                first | go_big_quiet_on | (refine ⟨_, fun _ _ => rfl, ?_⟩; go_big_quiet_on)
                go_big_quiet_want
                refine quiet_call (f := 11) (args := #[tlV A2 cc t, .string h]) (fun v _ => by go_simp) (fun v hv => (Hho.out v (HR2.out v hv) (HRT.out v hv)).mono (fun e w' h => ⟨h.1, HCm.out v w' hv h.2⟩)) ?_
                simp only [Act.put, List.setIfInBounds_toArray, List.set_cons_zero, List.set_cons_succ]
                go_big_quiet_on
                go_big_quiet_want
                go_big_quiet_op
                first | go_big_quiet_on | (refine ⟨_, fun _ _ => rfl, ?_⟩; go_big_quiet_on)
                go_big_quiet_skip
                go_big_quiet_skip
                go_big_quiet_skip
                go_big_quiet_skip
                go_big_quiet_skip
                go_big_quiet_want
                go_big_quiet_op
                first | go_big_quiet_on | (refine ⟨_, fun _ _ => rfl, ?_⟩; go_big_quiet_on)
                go_big_quiet_want
                go_big_quiet_op
                first | go_big_quiet_on | (refine ⟨_, fun _ _ => rfl, ?_⟩; go_big_quiet_on)
                go_big_quiet_want
                go_big_quiet_op
                first | go_big_quiet_on | (refine ⟨_, fun _ _ => rfl, ?_⟩; go_big_quiet_on)
                go_big_quiet_want
                refine quiet_run (v := tlV A3 ce (freeT t)) (fun v hv => by obtain ⟨⟨c0, c1, c2, c3, c4⟩, d0, d1, d2, d3, d4⟩ := HLL.out v hv; go_simp) ?_
                simp only [Act.put, List.setIfInBounds_toArray, List.set_cons_zero, List.set_cons_succ]
                go_big_quiet_on
                go_big_quiet_want
                go_big_quiet_op
                first | go_big_quiet_on | (refine ⟨_, fun _ _ => rfl, ?_⟩; go_big_quiet_on)
                go_big_quiet_want
                go_big_quiet_op
                first | go_big_quiet_on | (refine ⟨_, fun _ _ => rfl, ?_⟩; go_big_quiet_on)
                go_big_quiet_want
                refine quiet_call (f := 13) (args := #[tlV A3 ce (freeT t), .string h, .int .i64 (k : Int)]) (fun v _ => by go_simp) (fun v hv => (Hfr.out v (HR3.out v hv) (HRT.out v hv)).mono (fun e w' h => ⟨h.1, HCm.out v w' hv h.2⟩)) ?_
                simp only [Act.put, List.setIfInBounds_toArray, List.set_cons_zero, List.set_cons_succ]
                go_big_quiet_on
                go_big_quiet_want
                go_big_quiet_op
                first | go_big_quiet_on | (refine ⟨_, fun _ _ => rfl, ?_⟩; go_big_quiet_on)
                go_big_quiet_want
                go_big_quiet_op
                first | go_big_quiet_on | (refine ⟨_, fun _ _ => rfl, ?_⟩; go_big_quiet_on)
                go_big_quiet_want
                go_big_quiet_op
                first | go_big_quiet_on | (refine ⟨_, fun _ _ => rfl, ?_⟩; go_big_quiet_on)
                go_big_quiet_want
                go_big_quiet_op
                first | go_big_quiet_on | (refine ⟨_, fun _ _ => rfl, ?_⟩; go_big_quiet_on)
                go_big_quiet_want
                refine quiet_call (f := 20) (args := #[.int .i64 (k : Int)]) (fun v _ => by go_simp) (fun v hv => (Hch.out v).mono (fun e w' h => ⟨h.1, h.2 ▸ hv⟩)) ?_
                simp only [Act.put, List.setIfInBounds_toArray, List.set_cons_zero, List.set_cons_succ]
                go_big_quiet_on
                go_big_quiet_want
                go_big_quiet_op
                first | go_big_quiet_on | (refine ⟨_, fun _ _ => rfl, ?_⟩; go_big_quiet_on)
                go_big_quiet_want
                refine quiet_run (v := tlV A2 cc t) (fun v hv => by obtain ⟨⟨c0, c1, c2, c3, c4⟩, d0, d1, d2, d3, d4⟩ := HLL.out v hv; go_simp) ?_
                simp only [Act.put, List.setIfInBounds_toArray, List.set_cons_zero, List.set_cons_succ]
                go_big_quiet_on
                go_big_quiet_want
                go_big_quiet_op
                first | go_big_quiet_on | (refine ⟨_, fun _ _ => rfl, ?_⟩; go_big_quiet_on)
                go_big_quiet_want
                go_big_quiet_op
                first | go_big_quiet_on | (refine ⟨_, fun _ _ => rfl, ?_⟩; go_big_quiet_on)
                go_big_quiet_want
                refine quiet_call (f := 13) (args := #[tlV A2 cc t, .string h, .int .i64 (k : Int)]) (fun v _ => by go_simp) (fun v hv => (Hmk.out v (HR2.out v hv) (HRT.out v hv)).mono (fun e w' h => ⟨h.1, HCm.out v w' hv h.2⟩)) ?_
                simp only [Act.put, List.setIfInBounds_toArray, List.set_cons_zero, List.set_cons_succ]
                go_big_quiet_on
                go_big_quiet_want
                refine quiet_run (v := tlV A2 cc t) (fun v hv => by obtain ⟨⟨c0, c1, c2, c3, c4⟩, d0, d1, d2, d3, d4⟩ := HLL.out v hv; go_simp) ?_
                simp only [Act.put, List.setIfInBounds_toArray, List.set_cons_zero, List.set_cons_succ]
                go_big_quiet_on
                go_big_quiet_want
                go_big_quiet_op
                first | go_big_quiet_on | (refine ⟨_, fun _ _ => rfl, ?_⟩; go_big_quiet_on)
                go_big_quiet_want
                refine quiet_call (f := 13) (args := #[tlV A2 cc t, .string h, .int .i64 3]) (fun v _ => by go_simp) (fun v hv => (Hm3.out v (HR2.out v hv) (HRT.out v hv)).mono (fun e w' h => ⟨h.1, HCm.out v w' hv h.2⟩)) ?_
                simp only [Act.put, List.setIfInBounds_toArray, List.set_cons_zero, List.set_cons_succ]
                go_big_quiet_on
                go_big_quiet_want
                go_big_quiet_op
                first | go_big_quiet_on | (refine ⟨_, fun _ _ => rfl, ?_⟩; go_big_quiet_on)
                go_big_quiet_want
                go_big_quiet_op
                first | go_big_quiet_on | (refine ⟨_, fun _ _ => rfl, ?_⟩; go_big_quiet_on)
                go_big_quiet_want
                go_big_quiet_op
                first | go_big_quiet_on | (refine ⟨_, fun _ _ => rfl, ?_⟩; go_big_quiet_on)
                refine wpQuiet_nil ?_
                intro w5 hC5
                have HB5 := Lib.hid (HW.out.trans ((HCi.out _ hC5).mono HW.out.size))
                clear hC5
                go_wp2_with (fail)
                go_roundw
                case rel => exact ⟨k + 1, by omega, by go_num, HB5⟩
                case measure => simp [intOf]; omega
              | false =>
                rw [ch] at Hch
                clear ch q3
                go_upto_region 9 with (fail)
                refine wp_region_class C (by kernel_rfl) (by kernel_rfl) HC0.out ?_
                go_big_quiet_want
                refine quiet_run (v := tlV A2 cc t) (fun v hv => by obtain ⟨⟨c0, c1, c2, c3, c4⟩, d0, d1, d2, d3, d4⟩ := HLL.out v hv; go_simp) ?_
                simp only [Act.put, List.setIfInBounds_toArray, List.set_cons_zero, List.set_cons_succ]
                go_big_quiet_on
                go_big_quiet_want
                go_big_quiet_op
                first | go_big_quiet_on | (refine ⟨_, fun _ _ => rfl, ?_⟩; go_big_quiet_on)
                go_big_quiet_want
                refine quiet_call (f := 13) (args := #[tlV A2 cc t, .string h, .int .i64 3]) (fun v _ => by go_simp) (fun v hv => (Hm3.out v (HR2.out v hv) (HRT.out v hv)).mono (fun e w' h => ⟨h.1, HCm.out v w' hv h.2⟩)) ?_
                simp only [Act.put, List.setIfInBounds_toArray, List.set_cons_zero, List.set_cons_succ]
                go_big_quiet_on
                go_big_quiet_want
                go_big_quiet_op
                first | go_big_quiet_on | (refine ⟨_, fun _ _ => rfl, ?_⟩; go_big_quiet_on)
                go_big_quiet_skip
                go_big_quiet_skip
                go_big_quiet_skip
                go_big_quiet_skip
                go_big_quiet_want
                go_big_quiet_op
                first | go_big_quiet_on | (refine ⟨_, fun _ _ => rfl, ?_⟩; go_big_quiet_on)
                go_big_quiet_want
                go_big_quiet_op
                first | go_big_quiet_on | (refine ⟨_, fun _ _ => rfl, ?_⟩; go_big_quiet_on)
                go_big_quiet_want
                refine quiet_run (v := tlV A2 cc t) (fun v hv => by obtain ⟨⟨c0, c1, c2, c3, c4⟩, d0, d1, d2, d3, d4⟩ := HLL.out v hv; go_simp) ?_
                simp only [Act.put, List.setIfInBounds_toArray, List.set_cons_zero, List.set_cons_succ]
                go_big_quiet_on
                go_big_quiet_want
                go_big_quiet_op
                first | go_big_quiet_on | (refine ⟨_, fun _ _ => rfl, ?_⟩; go_big_quiet_on)
                go_big_quiet_want
                refine quiet_call (f := 11) (args := #[tlV A2 cc t, .string h]) (fun v _ => by go_simp) (fun v hv => (Hho.out v (HR2.out v hv) (HRT.out v hv)).mono (fun e w' h => ⟨h.1, HCm.out v w' hv h.2⟩)) ?_
                simp only [Act.put, List.setIfInBounds_toArray, List.set_cons_zero, List.set_cons_succ]
                go_big_quiet_on
                go_big_quiet_want
                go_big_quiet_op
                first | go_big_quiet_on | (refine ⟨_, fun _ _ => rfl, ?_⟩; go_big_quiet_on)
                go_big_quiet_skip
                go_big_quiet_skip
                go_big_quiet_skip
                go_big_quiet_skip
                go_big_quiet_skip
                go_big_quiet_want
                go_big_quiet_op
                first | go_big_quiet_on | (refine ⟨_, fun _ _ => rfl, ?_⟩; go_big_quiet_on)
                go_big_quiet_want
                go_big_quiet_op
                first | go_big_quiet_on | (refine ⟨_, fun _ _ => rfl, ?_⟩; go_big_quiet_on)
                go_big_quiet_want
                go_big_quiet_op
                first | go_big_quiet_on | (refine ⟨_, fun _ _ => rfl, ?_⟩; go_big_quiet_on)
                go_big_quiet_want
                refine quiet_run (v := tlV A3 ce (freeT t)) (fun v hv => by obtain ⟨⟨c0, c1, c2, c3, c4⟩, d0, d1, d2, d3, d4⟩ := HLL.out v hv; go_simp) ?_
                simp only [Act.put, List.setIfInBounds_toArray, List.set_cons_zero, List.set_cons_succ]
                go_big_quiet_on
                go_big_quiet_want
                go_big_quiet_op
                first | go_big_quiet_on | (refine ⟨_, fun _ _ => rfl, ?_⟩; go_big_quiet_on)
                go_big_quiet_want
                go_big_quiet_op
                first | go_big_quiet_on | (refine ⟨_, fun _ _ => rfl, ?_⟩; go_big_quiet_on)
                go_big_quiet_want
                refine quiet_call (f := 13) (args := #[tlV A3 ce (freeT t), .string h, .int .i64 (k : Int)]) (fun v _ => by go_simp) (fun v hv => (Hfr.out v (HR3.out v hv) (HRT.out v hv)).mono (fun e w' h => ⟨h.1, HCm.out v w' hv h.2⟩)) ?_
                simp only [Act.put, List.setIfInBounds_toArray, List.set_cons_zero, List.set_cons_succ]
                go_big_quiet_on
                go_big_quiet_want
                go_big_quiet_op
                first | go_big_quiet_on | (refine ⟨_, fun _ _ => rfl, ?_⟩; go_big_quiet_on)
                go_big_quiet_want
                go_big_quiet_op
                first | go_big_quiet_on | (refine ⟨_, fun _ _ => rfl, ?_⟩; go_big_quiet_on)
                go_big_quiet_want
                go_big_quiet_op
                first | go_big_quiet_on | (refine ⟨_, fun _ _ => rfl, ?_⟩; go_big_quiet_on)
                go_big_quiet_want
                go_big_quiet_op
                first | go_big_quiet_on | (refine ⟨_, fun _ _ => rfl, ?_⟩; go_big_quiet_on)
                go_big_quiet_want
                refine quiet_call (f := 20) (args := #[.int .i64 (k : Int)]) (fun v _ => by go_simp) (fun v hv => (Hch.out v).mono (fun e w' h => ⟨h.1, h.2 ▸ hv⟩)) ?_
                simp only [Act.put, List.setIfInBounds_toArray, List.set_cons_zero, List.set_cons_succ]
                go_big_quiet_on
                go_big_quiet_want
                go_big_quiet_op
                first | go_big_quiet_on | (refine ⟨_, fun _ _ => rfl, ?_⟩; go_big_quiet_on)
                go_big_quiet_skip
                go_big_quiet_skip
                go_big_quiet_skip
                go_big_quiet_skip
                go_big_quiet_skip
                go_big_quiet_skip
                go_big_quiet_skip
                go_big_quiet_skip
                go_big_quiet_want
                go_big_quiet_op
                first | go_big_quiet_on | (refine ⟨_, fun _ _ => rfl, ?_⟩; go_big_quiet_on)
                go_big_quiet_want
                go_big_quiet_op
                first | go_big_quiet_on | (refine ⟨_, fun _ _ => rfl, ?_⟩; go_big_quiet_on)
                refine wpQuiet_nil ?_
                intro w5 hC5
                have HB5 := Lib.hid (HW.out.trans ((HCi.out _ hC5).mono HW.out.size))
                clear hC5
                go_wp2_with (fail)
                go_roundw
                case rel => exact ⟨k + 1, by omega, by go_num, HB5⟩
                case measure => simp [intOf]; omega
        · obtain rfl : k = 17 := by omega
          have c0 : wr.cell? ⟨w2c.heap.size, 0, none⟩ = some (.slice A3 (freeT t).rs.length ce) := HKr.out.cell 0
          have c1 : wr.cell? ⟨w2c.heap.size, 1, none⟩ = some (.int .i64 (freeT t).ty) := HKr.out.cell 1
          have c2 : wr.cell? ⟨w2c.heap.size, 2, none⟩ = some (.string (freeT t).ho) := HKr.out.cell 2
          have c3 : wr.cell? ⟨w2c.heap.size, 3, none⟩ = some (.int .u32 (freeT t).ge) := HKr.out.cell 3
          have c4 : wr.cell? ⟨w2c.heap.size, 4, none⟩ = some (.bool (freeT t).ap) := HKr.out.cell 4
          go_wp2_with (fail)
          refine (holds_any A3 ce (freeT t) h _ HPr.out HM.out HTr.out).mono ?_; rintro e w6 ⟨rfl, hb6⟩
          rw [free_holds]
          have HB6 := Lib.hid ((HB4.out.trans (HW.out.mono HB4.out.size)).trans (hb6.mono (HB4.out.trans (HW.out.mono HB4.out.size)).size)); have HT6 := Lib.hid (HTr.out.below hb6)
          clear hb6 c0 c1 c2 c3 c4
          go_wp2_with (fail)
          refine (wakes_any _ HT6.out).mono ?_; rintro e w9 ⟨rfl, hb9⟩
          have HB9 := Lib.hid (HB6.out.trans (hb9.mono HB6.out.size)); clear hb9
          go_wp2_with (fail)
          go_ret
          exact ⟨rfl, HB9.out⟩
end Go.Proofs.YtememccaiimgbaaDoor
