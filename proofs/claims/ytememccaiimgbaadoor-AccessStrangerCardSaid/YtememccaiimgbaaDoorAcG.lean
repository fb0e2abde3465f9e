/- The statement of a stranger. -/
import Derived.Test.YtememccaiimgbaaDoorAcE
namespace Go.Proofs.YtememccaiimgbaaDoor
open Go.RowKit
theorem stranger_holds {t : Tl} {h : ByteArray} (hn : typeB t.ty = true) (hr : regB t.rs h = false) (he : eqS t.ho h = false) : holdsB t h = false := by
  have hb := of_decide_eq_true hn
  have hk := kindN_of t.ty hn
  unfold holdsB
  rw [hk]
  rcases (show t.ty = 1 ∨ t.ty = 2 ∨ t.ty = 3 ∨ t.ty = 4 ∨ t.ty = 5 ∨ t.ty = 6 by omega) with q | q | q | q | q | q <;> rw [q]
  · exact (eqS_comm _ _).trans he
  · exact (eqS_comm _ _).trans he
  · exact (eqS_comm _ _).trans he
  · exact (eqS_comm _ _).trans he
  · exact hr
  · exact hr
theorem stranger_reads {t : Tl} {h : ByteArray} (hn : typeB t.ty = true) (hr : regB t.rs h = false) (he : eqS t.ho h = false) : (t.ty % 2 == 1) = mayB t h 2 := by
  have hb := of_decide_eq_true hn
  have hk := kindN_of t.ty hn
  rw [mayB_reads t h 2 (by decide +kernel) (stranger_holds hn hr he), hk]
  rcases (show t.ty = 1 ∨ t.ty = 2 ∨ t.ty = 3 ∨ t.ty = 4 ∨ t.ty = 5 ∨ t.ty = 6 by omega) with q | q | q | q | q | q <;> rw [q]
  · rfl
  · rfl
  · rfl
  · exact hr.symm
  · rfl
  · exact hr.symm
theorem stranger_changes {t : Tl} {h : ByteArray} (hn : typeB t.ty = true) (hr : regB t.rs h = false) (he : eqS t.ho h = false) (op : Int) (h1 : readsB op = false) (h2 : changesB op = true) : mayB t h op = false := by
  have hb := of_decide_eq_true hn
  have hk := kindN_of t.ty hn
  rw [mayB_changes t h op h1 h2 (stranger_holds hn hr he), hk]
  rcases (show t.ty = 1 ∨ t.ty = 2 ∨ t.ty = 3 ∨ t.ty = 4 ∨ t.ty = 5 ∨ t.ty = 6 by omega) with q | q | q | q | q | q <;> rw [q]
  · rfl
  · rfl
  · exact hr
  · exact hr
  · exact hr
  · exact hr
set_option maxRecDepth 100000 in
set_option maxHeartbeats 4000000 in
theorem stranger_any (A : Option Addr) (c : Nat) (t : Tl) (h : ByteArray) (w : World) (hl : Rgs w A t.rs) (hm : t.rs.length ≤ maxLen) (ht : RTab w) :
    Calls Tryd.prog 6 #[tlV A c t, .string h] w fun e w' => e = .returned (.bool true) ∧ Below w.heap.size w w' := by
  obtain ⟨h1, h2, h3⟩ := tl_box w A c t _ rfl
  have HT := Lib.hid h1; have HB := Lib.hid h2
  have HL := Lib.hid (hl.below h2); have HTb := Lib.hid (ht.below h2)
  have HM := Lib.hid hm
  have hnt := not_true
  have hnf := not_false
  clear h1 h2 h3 hl hm ht
  go_enter Tryd.func6, Tryd.ntmps6
  go_upto_region 1 with (fail)
  change Code.wp _ _ _ _ (w.alloc (.cells (tlC A c t) 27))
  generalize w.alloc (.cells (tlC A c t) 27) = w0 at *
  have c0 : w0.cell? ⟨w.heap.size, 0, none⟩ = some (.slice A t.rs.length c) := HT.out.cell 0
  have c1 : w0.cell? ⟨w.heap.size, 1, none⟩ = some (.int .i64 t.ty) := HT.out.cell 1
  have c2 : w0.cell? ⟨w.heap.size, 2, none⟩ = some (.string t.ho) := HT.out.cell 2
  have c3 : w0.cell? ⟨w.heap.size, 3, none⟩ = some (.int .u32 t.ge) := HT.out.cell 3
  have c4 : w0.cell? ⟨w.heap.size, 4, none⟩ = some (.bool t.ap) := HT.out.cell 4
  go_wp2_with (fail)
  refine (large_any A c t _ HL.out HM.out).mono ?_; rintro e w1 ⟨r, rfl, hr, hb1⟩
  have HB1 := Lib.hid (HB.out.trans (hb1.mono HB.out.size)); have HT1 := Lib.hid (HT.out.below hb1 HT.out.lt); have HL1 := Lib.hid (HL.out.below hb1); have HTb1 := Lib.hid (HTb.out.below hb1)
  have HR := Lib.hid hr
  clear hb1 hr c0 c1 c2 c3 c4
  cases r with
  | true =>
    go_wp2_with (fail)
    refine (wakes_any _ HTb1.out).mono ?_; rintro e w9 ⟨rfl, hb9⟩
    have HB9 := Lib.hid (HB1.out.trans (hb9.mono HB1.out.size)); clear hb9
    go_wp2_with (fail)
    go_ret
    exact ⟨rfl, HB9.out⟩
  | false =>
    have HN := Lib.hid (HR.out rfl)
    clear HR
    by_cases g1 : 1000 < h.size
    · have i1 : (1000 : Int) < h.size := by omega
      clear g1
      go_wp2_with (fail)
      refine (wakes_any _ HTb1.out).mono ?_; rintro e w9 ⟨rfl, hb9⟩
      have HB9 := Lib.hid (HB1.out.trans (hb9.mono HB1.out.size)); clear hb9
      go_wp2_with (fail)
      go_ret
      exact ⟨rfl, HB9.out⟩
    · have i1 : ¬ (1000 : Int) < h.size := by omega
      clear g1
      cases hrg : regB t.rs h with
      | true =>
        have HRg := Lib.hid hrg; clear hrg
        have c0 : w1.cell? ⟨w.heap.size, 0, none⟩ = some (.slice A t.rs.length c) := HT1.out.cell 0
        have c1 : w1.cell? ⟨w.heap.size, 1, none⟩ = some (.int .i64 t.ty) := HT1.out.cell 1
        have c2 : w1.cell? ⟨w.heap.size, 2, none⟩ = some (.string t.ho) := HT1.out.cell 2
        have c3 : w1.cell? ⟨w.heap.size, 3, none⟩ = some (.int .u32 t.ge) := HT1.out.cell 3
        have c4 : w1.cell? ⟨w.heap.size, 4, none⟩ = some (.bool t.ap) := HT1.out.cell 4
        go_wp2_with (fail)
        refine (refReg_any A c t h _ HL1.out HM.out).mono ?_; rintro e w1r ⟨rfl, hb⟩
        rw [HRg.out]
        replace HB1 := Lib.hid (HB1.out.trans (hb.mono HB1.out.size)); replace HT1 := Lib.hid (HT1.out.below hb HT1.out.lt); replace HL1 := Lib.hid (HL1.out.below hb); replace HTb1 := Lib.hid (HTb1.out.below hb)
        clear hb
        clear c0 c1 c2 c3 c4
        go_wp2_with (fail)
        refine (wakes_any _ HTb1.out).mono ?_; rintro e w9 ⟨rfl, hb9⟩
        have HB9 := Lib.hid (HB1.out.trans (hb9.mono HB1.out.size)); clear hb9
        go_wp2_with (fail)
        go_ret
        exact ⟨rfl, HB9.out⟩
      | false =>
        have HRg := Lib.hid hrg; clear hrg
        cases hty : typeB t.ty with
        | false =>
          have HTy := Lib.hid hty; clear hty
          have c0 : w1.cell? ⟨w.heap.size, 0, none⟩ = some (.slice A t.rs.length c) := HT1.out.cell 0
          have c1 : w1.cell? ⟨w.heap.size, 1, none⟩ = some (.int .i64 t.ty) := HT1.out.cell 1
          have c2 : w1.cell? ⟨w.heap.size, 2, none⟩ = some (.string t.ho) := HT1.out.cell 2
          have c3 : w1.cell? ⟨w.heap.size, 3, none⟩ = some (.int .u32 t.ge) := HT1.out.cell 3
          have c4 : w1.cell? ⟨w.heap.size, 4, none⟩ = some (.bool t.ap) := HT1.out.cell 4
          go_wp2_with (fail)
          refine (refReg_any A c t h _ HL1.out HM.out).mono ?_; rintro e w1r ⟨rfl, hb⟩
          rw [HRg.out]
          replace HB1 := Lib.hid (HB1.out.trans (hb.mono HB1.out.size)); replace HT1 := Lib.hid (HT1.out.below hb HT1.out.lt); replace HL1 := Lib.hid (HL1.out.below hb); replace HTb1 := Lib.hid (HTb1.out.below hb)
          clear hb
          clear c0 c1 c2 c3 c4
          have c0 : w1r.cell? ⟨w.heap.size, 0, none⟩ = some (.slice A t.rs.length c) := HT1.out.cell 0
          have c1 : w1r.cell? ⟨w.heap.size, 1, none⟩ = some (.int .i64 t.ty) := HT1.out.cell 1
          have c2 : w1r.cell? ⟨w.heap.size, 2, none⟩ = some (.string t.ho) := HT1.out.cell 2
          have c3 : w1r.cell? ⟨w.heap.size, 3, none⟩ = some (.int .u32 t.ge) := HT1.out.cell 3
          have c4 : w1r.cell? ⟨w.heap.size, 4, none⟩ = some (.bool t.ap) := HT1.out.cell 4
          go_wp2_with (fail)
          refine (refType_any t.ty _).mono ?_; rintro e wx ⟨rfl, rfl⟩
          rw [HTy.out]
          go_wp2_with (fail)
          refine (wakes_any _ HTb1.out).mono ?_; rintro e w9 ⟨rfl, hb9⟩
          have HB9 := Lib.hid (HB1.out.trans (hb9.mono HB1.out.size)); clear hb9
          go_wp2_with (fail)
          go_ret
          exact ⟨rfl, HB9.out⟩
        | true =>
          have HTy := Lib.hid hty; clear hty
          cases heq : (t.ho.toList == h.toList) with
          | true =>
            have c0 : w1.cell? ⟨w.heap.size, 0, none⟩ = some (.slice A t.rs.length c) := HT1.out.cell 0
            have c1 : w1.cell? ⟨w.heap.size, 1, none⟩ = some (.int .i64 t.ty) := HT1.out.cell 1
            have c2 : w1.cell? ⟨w.heap.size, 2, none⟩ = some (.string t.ho) := HT1.out.cell 2
            have c3 : w1.cell? ⟨w.heap.size, 3, none⟩ = some (.int .u32 t.ge) := HT1.out.cell 3
            have c4 : w1.cell? ⟨w.heap.size, 4, none⟩ = some (.bool t.ap) := HT1.out.cell 4
            go_wp2_with (fail)
            refine (refReg_any A c t h _ HL1.out HM.out).mono ?_; rintro e w1r ⟨rfl, hb⟩
            rw [HRg.out]
            replace HB1 := Lib.hid (HB1.out.trans (hb.mono HB1.out.size)); replace HT1 := Lib.hid (HT1.out.below hb HT1.out.lt); replace HL1 := Lib.hid (HL1.out.below hb); replace HTb1 := Lib.hid (HTb1.out.below hb)
            clear hb
            clear c0 c1 c2 c3 c4
            have c0 : w1r.cell? ⟨w.heap.size, 0, none⟩ = some (.slice A t.rs.length c) := HT1.out.cell 0
            have c1 : w1r.cell? ⟨w.heap.size, 1, none⟩ = some (.int .i64 t.ty) := HT1.out.cell 1
            have c2 : w1r.cell? ⟨w.heap.size, 2, none⟩ = some (.string t.ho) := HT1.out.cell 2
            have c3 : w1r.cell? ⟨w.heap.size, 3, none⟩ = some (.int .u32 t.ge) := HT1.out.cell 3
            have c4 : w1r.cell? ⟨w.heap.size, 4, none⟩ = some (.bool t.ap) := HT1.out.cell 4
            go_wp2_with (fail)
            refine (refType_any t.ty _).mono ?_; rintro e wx ⟨rfl, rfl⟩
            rw [HTy.out]
            go_wp2_with (fail)
            refine (wakes_any _ HTb1.out).mono ?_; rintro e w9 ⟨rfl, hb9⟩
            have HB9 := Lib.hid (HB1.out.trans (hb9.mono HB1.out.size)); clear hb9
            go_wp2_with (fail)
            go_ret
            exact ⟨rfl, HB9.out⟩
          | false =>
            have HEq := Lib.hid (show eqS t.ho h = false from heq)
            have c0 : w1.cell? ⟨w.heap.size, 0, none⟩ = some (.slice A t.rs.length c) := HT1.out.cell 0
            have c1 : w1.cell? ⟨w.heap.size, 1, none⟩ = some (.int .i64 t.ty) := HT1.out.cell 1
            have c2 : w1.cell? ⟨w.heap.size, 2, none⟩ = some (.string t.ho) := HT1.out.cell 2
            have c3 : w1.cell? ⟨w.heap.size, 3, none⟩ = some (.int .u32 t.ge) := HT1.out.cell 3
            have c4 : w1.cell? ⟨w.heap.size, 4, none⟩ = some (.bool t.ap) := HT1.out.cell 4
            go_wp2_with (fail)
            refine (refReg_any A c t h _ HL1.out HM.out).mono ?_; rintro e w1r ⟨rfl, hb⟩
            rw [HRg.out]
            replace HB1 := Lib.hid (HB1.out.trans (hb.mono HB1.out.size)); replace HT1 := Lib.hid (HT1.out.below hb HT1.out.lt); replace HL1 := Lib.hid (HL1.out.below hb); replace HTb1 := Lib.hid (HTb1.out.below hb)
            clear hb
            clear c0 c1 c2 c3 c4
            have c0 : w1r.cell? ⟨w.heap.size, 0, none⟩ = some (.slice A t.rs.length c) := HT1.out.cell 0
            have c1 : w1r.cell? ⟨w.heap.size, 1, none⟩ = some (.int .i64 t.ty) := HT1.out.cell 1
            have c2 : w1r.cell? ⟨w.heap.size, 2, none⟩ = some (.string t.ho) := HT1.out.cell 2
            have c3 : w1r.cell? ⟨w.heap.size, 3, none⟩ = some (.int .u32 t.ge) := HT1.out.cell 3
            have c4 : w1r.cell? ⟨w.heap.size, 4, none⟩ = some (.bool t.ap) := HT1.out.cell 4
            go_wp2_with (fail)
            refine (refType_any t.ty _).mono ?_; rintro e wx ⟨rfl, rfl⟩
            rw [HTy.out]
            go_upto_region 3 with (fail)
            clear c0 c1 c2 c3 c4 heq
            have c0 : w1r.cell? ⟨w.heap.size, 0, none⟩ = some (.slice A t.rs.length c) := HT1.out.cell 0
            have c1 : w1r.cell? ⟨w.heap.size, 1, none⟩ = some (.int .i64 t.ty) := HT1.out.cell 1
            have c2 : w1r.cell? ⟨w.heap.size, 2, none⟩ = some (.string t.ho) := HT1.out.cell 2
            have c3 : w1r.cell? ⟨w.heap.size, 3, none⟩ = some (.int .u32 t.ge) := HT1.out.cell 3
            have c4 : w1r.cell? ⟨w.heap.size, 4, none⟩ = some (.bool t.ap) := HT1.out.cell 4
            go_wp2_with (fail)
            refine (copy_any A c t _ HL1.out (by have := HN.out; omega)).mono ?_; rintro e w1c ⟨A2, cc, rfl, ho, hb⟩
            have HB2c := Lib.hid (HB1.out.trans (hb.mono HB1.out.size)); have HT2c := Lib.hid (HT1.out.below hb HT1.out.lt); have HL2c := Lib.hid (HL1.out.below hb); have HTb2c := Lib.hid (HTb1.out.below hb); have HO2c := Lib.hid ho; have HX2 := Lib.hid hb
            clear ho hb c0 c1 c2 c3 c4
            go_upto_region 4 with (fail)
            change Code.wp _ _ _ _ (w1c.alloc (.cells (tlC A2 cc t) 27))
            have hbx : ∀ V, V = w1c.alloc (.cells (tlC A2 cc t) 27) → Blk V w1c.heap.size 27 (tlC A2 cc t) ∧ Below w1c.heap.size w1c V := by
              rintro V rfl
              exact ⟨Blk.new _ _ _, (Below.refl _ _).alloc (Nat.le_refl _) _⟩
            obtain ⟨k1, k2⟩ := hbx _ rfl
            have HI2 := Lib.hid k1; have HB2 := Lib.hid (HB2c.out.trans (k2.mono HB2c.out.size)); have HT2 := Lib.hid (HT2c.out.below k2 HT2c.out.lt); have HL2 := Lib.hid (HL2c.out.below k2); have HTb2 := Lib.hid (HTb2c.out.below k2); have HO2 := Lib.hid (HO2c.out.below k2); have HY2 := Lib.hid k2
            clear k1 k2 hbx
            generalize w1c.alloc (.cells (tlC A2 cc t) 27) = w2 at *
            have c0 : w2.cell? ⟨w.heap.size, 0, none⟩ = some (.slice A t.rs.length c) := HT2.out.cell 0
            have c1 : w2.cell? ⟨w.heap.size, 1, none⟩ = some (.int .i64 t.ty) := HT2.out.cell 1
            have c2 : w2.cell? ⟨w.heap.size, 2, none⟩ = some (.string t.ho) := HT2.out.cell 2
            have c3 : w2.cell? ⟨w.heap.size, 3, none⟩ = some (.int .u32 t.ge) := HT2.out.cell 3
            have c4 : w2.cell? ⟨w.heap.size, 4, none⟩ = some (.bool t.ap) := HT2.out.cell 4
            have HQ := Lib.hid (stranger_reads HTy.out HRg.out HEq.out)
            have q1 : (t.ty % 2 == 1) = mayB t h 2 := HQ.out
            have q0 : 0 ≤ t.ty := by have := of_decide_eq_true HTy.out; omega
            have F3 := Lib.hid (stranger_changes HTy.out HRg.out HEq.out 3 (by decide +kernel) (by decide +kernel))
            have F4 := Lib.hid (stranger_changes HTy.out HRg.out HEq.out 4 (by decide +kernel) (by decide +kernel))
            have F8 := Lib.hid (mayB_else t h 8 (by decide +kernel) (by decide +kernel))
            have F1 := Lib.hid (mayB_else t h 1 (by decide +kernel) (by decide +kernel))
            have F2 := Lib.hid (show mayB t h 2 = mayB t h 2 from rfl)
            obtain ⟨q, hq⟩ : ∃ q, mayB t h 2 = q := ⟨_, rfl⟩
            rw [hq] at q1 
            have F2' := Lib.hid hq
            clear hq HQ F2
            go_upto_region 5 with (fail)
            clear q1 q0 c0 c1 c2 c3 c4
            have c0 : w2.cell? ⟨w1c.heap.size, 0, none⟩ = some (.slice A2 t.rs.length cc) := HI2.out.cell 0
            have c1 : w2.cell? ⟨w1c.heap.size, 1, none⟩ = some (.int .i64 t.ty) := HI2.out.cell 1
            have c2 : w2.cell? ⟨w1c.heap.size, 2, none⟩ = some (.string t.ho) := HI2.out.cell 2
            have c3 : w2.cell? ⟨w1c.heap.size, 3, none⟩ = some (.int .u32 t.ge) := HI2.out.cell 3
            have c4 : w2.cell? ⟨w1c.heap.size, 4, none⟩ = some (.bool t.ap) := HI2.out.cell 4
            have e1 : (q == q) = true := by simp
            go_wp2_with (fail)
            refine (may_any A2 cc t h 2 _ HO2.out.rgs HM.out HTb2.out).mono ?_; rintro e w2n ⟨rfl, hb⟩
            rw [F2'.out]
            replace HB2 := Lib.hid (HB2.out.trans (hb.mono HB2.out.size)); replace HT2 := Lib.hid (HT2.out.below hb HT2.out.lt); replace HI2 := Lib.hid (HI2.out.below hb HI2.out.lt); replace HTb2 := Lib.hid (HTb2.out.below hb); replace HO2 := Lib.hid (HO2.out.below hb)
            clear hb c0 c1 c2 c3 c4
            have c0 : w2n.cell? ⟨w1c.heap.size, 0, none⟩ = some (.slice A2 t.rs.length cc) := HI2.out.cell 0
            have c1 : w2n.cell? ⟨w1c.heap.size, 1, none⟩ = some (.int .i64 t.ty) := HI2.out.cell 1
            have c2 : w2n.cell? ⟨w1c.heap.size, 2, none⟩ = some (.string t.ho) := HI2.out.cell 2
            have c3 : w2n.cell? ⟨w1c.heap.size, 3, none⟩ = some (.int .u32 t.ge) := HI2.out.cell 3
            have c4 : w2n.cell? ⟨w1c.heap.size, 4, none⟩ = some (.bool t.ap) := HI2.out.cell 4
            go_wp2_with (fail)
            refine (may_any A2 cc t h 3 _ HO2.out.rgs HM.out HTb2.out).mono ?_; rintro e w2n ⟨rfl, hb⟩
            rw [F3.out]
            replace HB2 := Lib.hid (HB2.out.trans (hb.mono HB2.out.size)); replace HT2 := Lib.hid (HT2.out.below hb HT2.out.lt); replace HI2 := Lib.hid (HI2.out.below hb HI2.out.lt); replace HTb2 := Lib.hid (HTb2.out.below hb); replace HO2 := Lib.hid (HO2.out.below hb)
            clear hb c0 c1 c2 c3 c4
            have c0 : w2n.cell? ⟨w1c.heap.size, 0, none⟩ = some (.slice A2 t.rs.length cc) := HI2.out.cell 0
            have c1 : w2n.cell? ⟨w1c.heap.size, 1, none⟩ = some (.int .i64 t.ty) := HI2.out.cell 1
            have c2 : w2n.cell? ⟨w1c.heap.size, 2, none⟩ = some (.string t.ho) := HI2.out.cell 2
            have c3 : w2n.cell? ⟨w1c.heap.size, 3, none⟩ = some (.int .u32 t.ge) := HI2.out.cell 3
            have c4 : w2n.cell? ⟨w1c.heap.size, 4, none⟩ = some (.bool t.ap) := HI2.out.cell 4
            go_wp2_with (fail)
            refine (may_any A2 cc t h 4 _ HO2.out.rgs HM.out HTb2.out).mono ?_; rintro e w2n ⟨rfl, hb⟩
            rw [F4.out]
            replace HB2 := Lib.hid (HB2.out.trans (hb.mono HB2.out.size)); replace HT2 := Lib.hid (HT2.out.below hb HT2.out.lt); replace HI2 := Lib.hid (HI2.out.below hb HI2.out.lt); replace HTb2 := Lib.hid (HTb2.out.below hb); replace HO2 := Lib.hid (HO2.out.below hb)
            clear hb c0 c1 c2 c3 c4
            have c0 : w2n.cell? ⟨w1c.heap.size, 0, none⟩ = some (.slice A2 t.rs.length cc) := HI2.out.cell 0
            have c1 : w2n.cell? ⟨w1c.heap.size, 1, none⟩ = some (.int .i64 t.ty) := HI2.out.cell 1
            have c2 : w2n.cell? ⟨w1c.heap.size, 2, none⟩ = some (.string t.ho) := HI2.out.cell 2
            have c3 : w2n.cell? ⟨w1c.heap.size, 3, none⟩ = some (.int .u32 t.ge) := HI2.out.cell 3
            have c4 : w2n.cell? ⟨w1c.heap.size, 4, none⟩ = some (.bool t.ap) := HI2.out.cell 4
            go_wp2_with (fail)
            refine (may_any A2 cc t h 8 _ HO2.out.rgs HM.out HTb2.out).mono ?_; rintro e w2n ⟨rfl, hb⟩
            rw [F8.out]
            replace HB2 := Lib.hid (HB2.out.trans (hb.mono HB2.out.size)); replace HT2 := Lib.hid (HT2.out.below hb HT2.out.lt); replace HI2 := Lib.hid (HI2.out.below hb HI2.out.lt); replace HTb2 := Lib.hid (HTb2.out.below hb); replace HO2 := Lib.hid (HO2.out.below hb)
            clear hb c0 c1 c2 c3 c4
            have c0 : w2n.cell? ⟨w1c.heap.size, 0, none⟩ = some (.slice A2 t.rs.length cc) := HI2.out.cell 0
            have c1 : w2n.cell? ⟨w1c.heap.size, 1, none⟩ = some (.int .i64 t.ty) := HI2.out.cell 1
            have c2 : w2n.cell? ⟨w1c.heap.size, 2, none⟩ = some (.string t.ho) := HI2.out.cell 2
            have c3 : w2n.cell? ⟨w1c.heap.size, 3, none⟩ = some (.int .u32 t.ge) := HI2.out.cell 3
            have c4 : w2n.cell? ⟨w1c.heap.size, 4, none⟩ = some (.bool t.ap) := HI2.out.cell 4
            go_wp2_with (fail)
            refine (may_any A2 cc t h 1 _ HO2.out.rgs HM.out HTb2.out).mono ?_; rintro e w2n ⟨rfl, hb⟩
            rw [F1.out]
            replace HB2 := Lib.hid (HB2.out.trans (hb.mono HB2.out.size)); replace HT2 := Lib.hid (HT2.out.below hb HT2.out.lt); replace HI2 := Lib.hid (HI2.out.below hb HI2.out.lt); replace HTb2 := Lib.hid (HTb2.out.below hb); replace HO2 := Lib.hid (HO2.out.below hb)
            clear hb c0 c1 c2 c3 c4
            have c0 : w2n.cell? ⟨w1c.heap.size, 0, none⟩ = some (.slice A2 t.rs.length cc) := HI2.out.cell 0
            have c1 : w2n.cell? ⟨w1c.heap.size, 1, none⟩ = some (.int .i64 t.ty) := HI2.out.cell 1
            have c2 : w2n.cell? ⟨w1c.heap.size, 2, none⟩ = some (.string t.ho) := HI2.out.cell 2
            have c3 : w2n.cell? ⟨w1c.heap.size, 3, none⟩ = some (.int .u32 t.ge) := HI2.out.cell 3
            have c4 : w2n.cell? ⟨w1c.heap.size, 4, none⟩ = some (.bool t.ap) := HI2.out.cell 4
            go_wp2_with (fail)
            refine (wakes_any _ HTb2.out).mono ?_; rintro e w9 ⟨rfl, hb9⟩
            have HB9 := Lib.hid (HB2.out.trans (hb9.mono HB2.out.size)); clear hb9
            go_wp2_with (fail)
            go_ret
            exact ⟨rfl, HB9.out⟩
end Go.Proofs.YtememccaiimgbaaDoor
