/- The statement of who is registered more. -/
import Derived.Test.YtememccaiimgbaaDoorAcE
namespace Go.Proofs.YtememccaiimgbaaDoor
open Go.RowKit
def addL (l : List Rg) (x : Rg) : List Rg := l ++ [x]
theorem wpList_append_one {ops : Array Oper} {rest : List Oper} {o : Oper} {a : Act} {w : World} {Q : Exit → Act → World → Prop} (hgd : o.guard = none) (s x : Operand)
    (ho : o.op = .call { callee := .builtin .append, args := #[s, x], argTypes := #[22, 22] }) (B : Nat) (A0 : Option Addr) (c0 : Nat) (l0 : List Rg) (hs : a.eval s = .slice A0 l0.length c0) (hown : Own w B A0 c0 l0)
    (A : Option Addr) (c : Nat) (y : Rg) (hx : a.eval x = .slice A 1 c) (hl : Rgs w A [y]) (hm : l0.length + 1 ≤ 100000) (hB : B ≤ w.heap.size)
    (h : ∀ A' c' w', Own w' B A' c' (addL l0 y) → w.grownBy w' (Value.slice A0 l0.length c0).ownBlock → wpList Tryd.prog ops Q rest (a.put o.dst (.slice A' (addL l0 y).length c')) w') : wpList Tryd.prog ops Q (o :: rest) a w :=
  wpList_append_rgs hgd s x ho B A0 c0 l0 hs hown A c [y] hx hl hm hB h
abbrev moreT (t : Tl) (x : Rg) : Tl := ⟨addL t.rs x, t.ty, t.ho, t.ge, t.ap⟩
theorem regB_add (l : List Rg) (x : Rg) (h : ByteArray) : regB (addL l x) h = (regB l h || eqS x.h h) := by
  unfold regB addL
  rw [List.any_append]
  simp only [List.any_cons, List.any_nil, Bool.or_false]
theorem hasB_add {g : Int} {t : Tl} {x : Rg} {h : ByteArray} (hg : hasB g t h = true) : hasB g (moreT t x) h = true := by
  unfold hasB at hg ⊢
  by_cases h1 : g = 1
  · rw [if_pos h1] at hg ⊢
    exact hg
  · rw [if_neg h1] at hg ⊢
    by_cases h2 : g = 2
    · rw [if_pos h2] at hg ⊢
      show regB (addL t.rs x) h = true
      rw [regB_add, hg, Bool.true_or]
    · rw [if_neg h2] at hg ⊢
      exact hg
theorem may_add {t : Tl} {x : Rg} {h : ByteArray} {op : Int} (hm : mayB t h op = true) : mayB (moreT t x) h op = true := by
  unfold mayB at hm ⊢
  rcases Bool.or_eq_true_iff.1 hm with q | q
  · rw [show hasB (gH (kindN (moreT t x).ty)) (moreT t x) h = true from hasB_add q, Bool.true_or]
  · rw [show hasB (othV (kindN (moreT t x).ty) op) (moreT t x) h = true from hasB_add q, Bool.or_true]
theorem eqS_refl (h : ByteArray) : eqS h h = true := by unfold eqS; simp
theorem may_new {t : Tl} {k : Int} {h : ByteArray} (hn : typeB t.ty = true) (h3 : 3 ≤ t.ty) : mayB (moreT t ⟨h, k⟩) h 3 = true := by
  have hb := of_decide_eq_true hn
  have hk : kindN (moreT t ⟨h, k⟩).ty = t.ty.toNat := kindN_of t.ty hn
  have hr : regB (addL t.rs ⟨h, k⟩) h = true := by rw [regB_add, eqS_refl, Bool.or_true]
  rw [mayB_eq, oth_changes _ 3 (by decide +kernel) (by decide +kernel), hk]
  have : gC t.ty.toNat = 2 := by rcases (show t.ty = 3 ∨ t.ty = 4 ∨ t.ty = 5 ∨ t.ty = 6 by omega) with q | q | q | q <;> rw [q] <;> rfl
  rw [this, has2, hr, Bool.or_true]
set_option maxRecDepth 100000 in
set_option maxHeartbeats 4000000 in
theorem grows_any (A : Option Addr) (c : Nat) (t : Tl) (h : ByteArray) (key : Int) (w : World) (hl : Rgs w A t.rs) (hm : t.rs.length ≤ maxLen) (ht : RTab w) (hs : h.size ≤ maxLen) :
    Calls Tryd.prog 7 #[tlV A c t, .string h, .int .u64 key] w fun e w' => e = .returned (.bool true) ∧ Below w.heap.size w w' := by
  obtain ⟨h1, h2, h3⟩ := tl_box w A c t _ rfl
  have HT := Lib.hid h1; have HB := Lib.hid h2
  have HL := Lib.hid (hl.below h2); have HTb := Lib.hid (ht.below h2)
  have HM := Lib.hid hm
  have HH := Lib.hid hs
  have hnt := not_true
  have hnf := not_false
  clear h1 h2 h3 hl hm ht hs
  go_enter Tryd.func7, Tryd.ntmps7
  go_upto_region 1 with (fail)
  change Code.wp _ _ _ _ (w.alloc (.cells (tlC A c t) 27))
  generalize w.alloc (.cells (tlC A c t) 27) = w0 at *
  have c0 : w0.cell? ⟨w.heap.size, 0, none⟩ = some (.slice A t.rs.length c) := HT.out.cell 0
  have c1 : w0.cell? ⟨w.heap.size, 1, none⟩ = some (.int .i64 t.ty) := HT.out.cell 1
  have c2 : w0.cell? ⟨w.heap.size, 2, none⟩ = some (.string t.ho) := HT.out.cell 2
  have c3 : w0.cell? ⟨w.heap.size, 3, none⟩ = some (.int .u32 t.ge) := HT.out.cell 3
  have c4 : w0.cell? ⟨w.heap.size, 4, none⟩ = some (.bool t.ap) := HT.out.cell 4
  go_wp2_with (fail)
  refine (large_any A c t _ HL.out HM.out).mono ?_; rintro e w1 ⟨r, rfl, hr, hb1⟩
  have HB1 := Lib.hid (HB.out.trans (hb1.mono HB.out.size)); have HT1 := Lib.hid (HT.out.below hb1 HT.out.lt); have HL1 := Lib.hid (HL.out.below hb1); have HTb1 := Lib.hid (HTb.out.below hb1)
  have HR := Lib.hid hr
  clear hb1 hr c0 c1 c2 c3 c4
  cases r with
  | true =>
    go_wp2_with (fail)
    refine (wakes_any _ HTb1.out).mono ?_; rintro e w9 ⟨rfl, hb9⟩
    have HB9 := Lib.hid (HB1.out.trans (hb9.mono HB1.out.size)); clear hb9
    go_wp2_with (fail)
    go_ret
    exact ⟨rfl, HB9.out⟩
  | false =>
    have HN := Lib.hid (HR.out rfl)
    clear HR
    by_cases g1 : 1000 < h.size
    · have i1 : (1000 : Int) < h.size := by omega
      clear g1
      go_wp2_with (fail)
      refine (wakes_any _ HTb1.out).mono ?_; rintro e w9 ⟨rfl, hb9⟩
      have HB9 := Lib.hid (HB1.out.trans (hb9.mono HB1.out.size)); clear hb9
      go_wp2_with (fail)
      go_ret
      exact ⟨rfl, HB9.out⟩
    · have i1 : ¬ (1000 : Int) < h.size := by omega
      clear g1
      have c0 : w1.cell? ⟨w.heap.size, 0, none⟩ = some (.slice A t.rs.length c) := HT1.out.cell 0
      have c1 : w1.cell? ⟨w.heap.size, 1, none⟩ = some (.int .i64 t.ty) := HT1.out.cell 1
      have c2 : w1.cell? ⟨w.heap.size, 2, none⟩ = some (.string t.ho) := HT1.out.cell 2
      have c3 : w1.cell? ⟨w.heap.size, 3, none⟩ = some (.int .u32 t.ge) := HT1.out.cell 3
      have c4 : w1.cell? ⟨w.heap.size, 4, none⟩ = some (.bool t.ap) := HT1.out.cell 4
      go_wp2_with (fail)
      refine (copy_any A c t _ HL1.out (by have := HN.out; omega)).mono ?_; rintro e w1c ⟨A2, cc, rfl, ho, hb⟩
      have HB2c := Lib.hid (HB1.out.trans (hb.mono HB1.out.size)); have HT2c := Lib.hid (HT1.out.below hb HT1.out.lt); have HL2c := Lib.hid (HL1.out.below hb); have HTb2c := Lib.hid (HTb1.out.below hb); have HO2c := Lib.hid ho; have HX2 := Lib.hid hb
      clear ho hb c0 c1 c2 c3 c4
      go_upto_region 4 with (fail)
      change Code.wp _ _ _ _ (w1c.alloc (.cells (tlC A2 cc t) 27))
      have hbx : ∀ V, V = w1c.alloc (.cells (tlC A2 cc t) 27) → Blk V w1c.heap.size 27 (tlC A2 cc t) ∧ Below w1c.heap.size w1c V := by
        rintro V rfl
        exact ⟨Blk.new _ _ _, (Below.refl _ _).alloc (Nat.le_refl _) _⟩
      obtain ⟨k1, k2⟩ := hbx _ rfl
      have HI2 := Lib.hid k1; have HB2 := Lib.hid (HB2c.out.trans (k2.mono HB2c.out.size)); have HT2 := Lib.hid (HT2c.out.below k2 HT2c.out.lt); have HL2 := Lib.hid (HL2c.out.below k2); have HTb2 := Lib.hid (HTb2c.out.below k2); have HO2 := Lib.hid (HO2c.out.below k2); have HY2 := Lib.hid k2
      clear k1 k2 hbx
      generalize w1c.alloc (.cells (tlC A2 cc t) 27) = w2 at *
      have c0 : w2.cell? ⟨w.heap.size, 0, none⟩ = some (.slice A t.rs.length c) := HT2.out.cell 0
      have c1 : w2.cell? ⟨w.heap.size, 1, none⟩ = some (.int .i64 t.ty) := HT2.out.cell 1
      have c2 : w2.cell? ⟨w.heap.size, 2, none⟩ = some (.string t.ho) := HT2.out.cell 2
      have c3 : w2.cell? ⟨w.heap.size, 3, none⟩ = some (.int .u32 t.ge) := HT2.out.cell 3
      have c4 : w2.cell? ⟨w.heap.size, 4, none⟩ = some (.bool t.ap) := HT2.out.cell 4
      go_wp2_with (fail)
      refine (copy_any A c t _ HL2.out (by have := HN.out; omega)).mono ?_; rintro e w2c ⟨A3, ce, rfl, ho, hb⟩
      have HB3c := Lib.hid (HB2.out.trans (hb.mono HB2.out.size)); have HT3c := Lib.hid (HT2.out.below hb HT2.out.lt); have HL3c := Lib.hid (HL2.out.below hb); have HTb3c := Lib.hid (HTb2.out.below hb); have HO3c := Lib.hid ho; have HX3 := Lib.hid hb
      clear ho hb c0 c1 c2 c3 c4
      go_upto_region 5 with (fail)
      change Code.wp _ _ _ _ (w2c.alloc (.cells (tlC A3 ce t) 27))
      have hbx : ∀ V, V = w2c.alloc (.cells (tlC A3 ce t) 27) → Blk V w2c.heap.size 27 (tlC A3 ce t) ∧ Below w2c.heap.size w2c V := by
        rintro V rfl
        exact ⟨Blk.new _ _ _, (Below.refl _ _).alloc (Nat.le_refl _) _⟩
      obtain ⟨k1, k2⟩ := hbx _ rfl
      have HI3 := Lib.hid k1; have HB3 := Lib.hid (HB3c.out.trans (k2.mono HB3c.out.size)); have HT3 := Lib.hid (HT3c.out.below k2 HT3c.out.lt); have HL3 := Lib.hid (HL3c.out.below k2); have HTb3 := Lib.hid (HTb3c.out.below k2); have HO3 := Lib.hid (HO3c.out.below k2); have HY3 := Lib.hid k2
      clear k1 k2 hbx
      generalize w2c.alloc (.cells (tlC A3 ce t) 27) = w3 at *
      have kb : ∀ v : World, (Instr.build 37 #[(0, .string h), (1, .int .u64 key)]).run Tryd.prog v = .ok (.agg #[.string h, .int .u64 key]) v := fun _ => by kernel_rfl
      have hbx : ∀ V, V = w3.alloc (.cells #[.string h, .int .u64 key] 37) → Blk V w3.heap.size 37 #[.string h, .int .u64 key] ∧ Below w3.heap.size w3 V := by
        rintro V rfl
        exact ⟨Blk.new _ _ _, (Below.refl _ _).alloc (Nat.le_refl _) _⟩
      obtain ⟨k1, k2⟩ := hbx _ rfl
      have HN3 := Lib.hid k1; have HM3 := Lib.hid k2
      clear k1 k2 hbx
      have HO3a := Lib.hid (HO3.out.below HM3.out); have HI3a := Lib.hid (HI3.out.below HM3.out HI3.out.lt)
      have HS3 := Lib.hid (show Rgs (w3.alloc (.cells #[.string h, .int .u64 key] 37)) (some ⟨w3.heap.size, 0, none⟩) [⟨h, key⟩] from fun _ => ⟨_, 0, rfl, fun j x hj => by
        have hlt : j < 1 := (List.getElem?_eq_some_iff.1 hj).1
        obtain rfl : j = 0 := by omega
        obtain rfl : _ = x := Option.some.inj hj
        exact ⟨HH.out, HN3.out.cell 0, HN3.out.cell 1⟩⟩)
      have HBz := Lib.hid (show w2.heap.size ≤ (w3.alloc (.cells #[.string h, .int .u64 key] 37)).heap.size from Nat.le_trans (Nat.le_trans HX3.out.size HY3.out.size) HM3.out.size)
      have HNb := Lib.hid (show some w2c.heap.size ≠ (Value.slice A3 t.rs.length ce).ownBlock from fun e => Nat.lt_irrefl _ (HO3c.out.1.lt _ e.symm).2)
      have c0 : w3.cell? ⟨w2c.heap.size, 0, none⟩ = some (.slice A3 t.rs.length ce) := HI3.out.cell 0
      go_wp2_with (at_builtin; refine wpList_append_one rfl (.tmp 23) (.tmp 27) rfl w2.heap.size A3 ce t.rs rfl HO3a.out (some ⟨w3.heap.size, 0, none⟩) 1 ⟨h, key⟩ rfl HS3.out (by have := HN.out; omega) HBz.out ?_; intro A4 c4n w4 hn4 hg4; have H4 := Lib.hid hn4; have HG4 := Lib.hid hg4; clear hn4 hg4 c0 kb; have HI4 := Lib.hid (HI3a.out.grown HG4.out HNb.out); have c0 := HI4.out.cell 0; have f0 := HI4.out.free 0; go_upto_region 6 with (fail))
      clear c0 f0
      change Code.wp _ _ _ _ (w4.setCell ⟨w2c.heap.size, 0, none⟩ (.slice A4 (addL t.rs ⟨h, key⟩).length c4n))
      have HBg := Lib.hid (show Below w2.heap.size w2 w4 from ((HX3.out.trans (HY3.out.mono HX3.out.size)).trans (HM3.out.mono (HX3.out.trans (HY3.out.mono HX3.out.size)).size)).grown HG4.out HBz.out (fun g hg => (HO3.out.1.lt g hg).1))
      have hV : ∀ V, V = w4.setCell ⟨w2c.heap.size, 0, none⟩ (.slice A4 (addL t.rs ⟨h, key⟩).length c4n) → Blk V w2c.heap.size 27 (tlC A4 c4n (moreT t ⟨h, key⟩)) ∧ Below w2.heap.size w2 V ∧ Rgs V A4 (addL t.rs ⟨h, key⟩) := by
        rintro V rfl
        refine ⟨HI4.out.put 0 _, HBg.out.setCell HX3.out.size _, (show Own _ w2.heap.size A4 c4n _ from ⟨own_keep H4.out.1 (fun g hg => Below.heap_setCell _ _ _ _ (fun (e : g = w2c.heap.size) => own_apart H4.out.1 HI4.out (by decide) (hg.trans (congrArg some e)))), H4.out.2⟩).rgs⟩
      obtain ⟨v1, v2, v3⟩ := hV _ rfl
      have HK5 := Lib.hid v1; have HD5 := Lib.hid v2; have HP5 := Lib.hid v3
      clear v1 v2 v3 hV
      generalize w4.setCell ⟨w2c.heap.size, 0, none⟩ (.slice A4 (addL t.rs ⟨h, key⟩).length c4n) = w5 at *
      have HB5 := Lib.hid (HB2.out.trans (HD5.out.mono HB2.out.size)); have HTb5 := Lib.hid (HTb2.out.below HD5.out)
      have HI5 := Lib.hid (HI2.out.below HD5.out HI2.out.lt); have HO5 := Lib.hid (HO2.out.rgs.below HD5.out); have HT5 := Lib.hid (HT2.out.below HD5.out HT2.out.lt)
      have HM5 := Lib.hid (show (moreT t ⟨h, key⟩).rs.length ≤ maxLen by unfold maxLen; have := HN.out; simp [addL]; omega)
      go_wp2_with (fail)
      go_loopw [9] (fun i wr => ∃ k : Nat, k ≤ 17 ∧ i = .int .i64 k ∧ Hid (Below w5.heap.size w5 wr)) (fun i _ => 17 - (intOf i).toNat)
      case atStart => exact ⟨0, by omega, rfl, Lib.hid (Below.refl _ _)⟩
      case round =>
        obtain ⟨k, hk, rfl, HW⟩ := hrel
        have HIr := Lib.hid (HI5.out.below HW.out HI5.out.lt); have HKr := Lib.hid (HK5.out.below HW.out HK5.out.lt); have HT6 := Lib.hid (HT5.out.below HW.out HT5.out.lt)
        have HOr := Lib.hid (HO5.out.below HW.out); have HPr := Lib.hid (HP5.out.below HW.out); have HTr := Lib.hid (HTb5.out.below HW.out)
        by_cases hlt : k ≤ 16
        · have hlt' : (k : Int) ≤ 16 := by omega
          cases hq : mayB t h (k : Int) with
          | false =>
            have HQ := Lib.hid hq; clear hq
            have c0 : wr.cell? ⟨w1c.heap.size, 0, none⟩ = some (.slice A2 t.rs.length cc) := HIr.out.cell 0
            have c1 : wr.cell? ⟨w1c.heap.size, 1, none⟩ = some (.int .i64 t.ty) := HIr.out.cell 1
            have c2 : wr.cell? ⟨w1c.heap.size, 2, none⟩ = some (.string t.ho) := HIr.out.cell 2
            have c3 : wr.cell? ⟨w1c.heap.size, 3, none⟩ = some (.int .u32 t.ge) := HIr.out.cell 3
            have c4 : wr.cell? ⟨w1c.heap.size, 4, none⟩ = some (.bool t.ap) := HIr.out.cell 4
            go_wp2_with (fail)
            refine (may_any A2 cc t h (k : Int) _ HOr.out HM.out HTr.out).mono ?_; rintro e w6 ⟨rfl, hb⟩
            rw [HQ.out]
            have HB6 := Lib.hid (HW.out.trans (hb.mono HW.out.size))
            clear hb c0 c1 c2 c3 c4
            go_wp2_with (fail)
            go_roundw
            case rel => exact ⟨k + 1, by omega, by go_num, HB6⟩
            case measure => simp [intOf]; omega
          | true =>
            have HQ := Lib.hid hq; clear hq
            have c0 : wr.cell? ⟨w1c.heap.size, 0, none⟩ = some (.slice A2 t.rs.length cc) := HIr.out.cell 0
            have c1 : wr.cell? ⟨w1c.heap.size, 1, none⟩ = some (.int .i64 t.ty) := HIr.out.cell 1
            have c2 : wr.cell? ⟨w1c.heap.size, 2, none⟩ = some (.string t.ho) := HIr.out.cell 2
            have c3 : wr.cell? ⟨w1c.heap.size, 3, none⟩ = some (.int .u32 t.ge) := HIr.out.cell 3
            have c4 : wr.cell? ⟨w1c.heap.size, 4, none⟩ = some (.bool t.ap) := HIr.out.cell 4
            go_wp2_with (fail)
            refine (may_any A2 cc t h (k : Int) _ HOr.out HM.out HTr.out).mono ?_; rintro e w6 ⟨rfl, hb⟩
            rw [HQ.out]
            have HB6 := Lib.hid (HW.out.trans (hb.mono HW.out.size))
            have HK6 := Lib.hid (HKr.out.below hb HKr.out.lt); have HP6 := Lib.hid (HPr.out.below hb); have HTq := Lib.hid (HTr.out.below hb)
            clear hb c0 c1 c2 c3 c4
            have c0 : w6.cell? ⟨w2c.heap.size, 0, none⟩ = some (.slice A4 (moreT t ⟨h, key⟩).rs.length c4n) := HK6.out.cell 0
            have c1 : w6.cell? ⟨w2c.heap.size, 1, none⟩ = some (.int .i64 (moreT t ⟨h, key⟩).ty) := HK6.out.cell 1
            have c2 : w6.cell? ⟨w2c.heap.size, 2, none⟩ = some (.string (moreT t ⟨h, key⟩).ho) := HK6.out.cell 2
            have c3 : w6.cell? ⟨w2c.heap.size, 3, none⟩ = some (.int .u32 (moreT t ⟨h, key⟩).ge) := HK6.out.cell 3
            have c4 : w6.cell? ⟨w2c.heap.size, 4, none⟩ = some (.bool (moreT t ⟨h, key⟩).ap) := HK6.out.cell 4
            go_wp2_with (fail)
            refine (may_any A4 c4n (moreT t ⟨h, key⟩) h (k : Int) _ HP6.out HM5.out HTq.out).mono ?_; rintro e w7 ⟨rfl, hb⟩
            rw [may_add HQ.out]
            have HB7 := Lib.hid (HB6.out.trans (hb.mono HB6.out.size))
            clear hb c0 c1 c2 c3 c4
            go_wp2_with (fail)
            go_roundw
            case rel => exact ⟨k + 1, by omega, by go_num, HB7⟩
            case measure => simp [intOf]; omega
        · obtain rfl : k = 17 := by omega
          have HBw := Lib.hid (HB5.out.trans (HW.out.mono HB5.out.size))
          cases hty : typeB t.ty with
          | false =>
            have HTy := Lib.hid hty; clear hty
            have c0 : wr.cell? ⟨w.heap.size, 0, none⟩ = some (.slice A t.rs.length c) := HT6.out.cell 0
            have c1 : wr.cell? ⟨w.heap.size, 1, none⟩ = some (.int .i64 t.ty) := HT6.out.cell 1
            have c2 : wr.cell? ⟨w.heap.size, 2, none⟩ = some (.string t.ho) := HT6.out.cell 2
            have c3 : wr.cell? ⟨w.heap.size, 3, none⟩ = some (.int .u32 t.ge) := HT6.out.cell 3
            have c4 : wr.cell? ⟨w.heap.size, 4, none⟩ = some (.bool t.ap) := HT6.out.cell 4
            go_wp2_with (fail)
            refine (refType_any t.ty _).mono ?_; rintro e wx ⟨rfl, rfl⟩
            rw [HTy.out]
            go_wp2_with (fail)
            refine (wakes_any _ HTr.out).mono ?_; rintro e w9 ⟨rfl, hb9⟩
            have HB9 := Lib.hid (HBw.out.trans (hb9.mono HBw.out.size)); clear hb9
            go_wp2_with (fail)
            go_ret
            exact ⟨rfl, HB9.out⟩
          | true =>
            have HTy := Lib.hid hty; clear hty
            by_cases h3 : t.ty < 3
            · have i3 : t.ty < 3 := h3
              clear h3
              have c0 : wr.cell? ⟨w.heap.size, 0, none⟩ = some (.slice A t.rs.length c) := HT6.out.cell 0
              have c1 : wr.cell? ⟨w.heap.size, 1, none⟩ = some (.int .i64 t.ty) := HT6.out.cell 1
              have c2 : wr.cell? ⟨w.heap.size, 2, none⟩ = some (.string t.ho) := HT6.out.cell 2
              have c3 : wr.cell? ⟨w.heap.size, 3, none⟩ = some (.int .u32 t.ge) := HT6.out.cell 3
              have c4 : wr.cell? ⟨w.heap.size, 4, none⟩ = some (.bool t.ap) := HT6.out.cell 4
              go_wp2_with (fail)
              refine (refType_any t.ty _).mono ?_; rintro e wx ⟨rfl, rfl⟩
              rw [HTy.out]
              go_wp2_with (fail)
              refine (wakes_any _ HTr.out).mono ?_; rintro e w9 ⟨rfl, hb9⟩
              have HB9 := Lib.hid (HBw.out.trans (hb9.mono HBw.out.size)); clear hb9
              go_wp2_with (fail)
              go_ret
              exact ⟨rfl, HB9.out⟩
            · have i3 : ¬ t.ty < 3 := h3
              have HNw := Lib.hid (may_new (t := t) (k := key) (h := h) HTy.out (by omega))
              clear h3
              have c0 : wr.cell? ⟨w.heap.size, 0, none⟩ = some (.slice A t.rs.length c) := HT6.out.cell 0
              have c1 : wr.cell? ⟨w.heap.size, 1, none⟩ = some (.int .i64 t.ty) := HT6.out.cell 1
              have c2 : wr.cell? ⟨w.heap.size, 2, none⟩ = some (.string t.ho) := HT6.out.cell 2
              have c3 : wr.cell? ⟨w.heap.size, 3, none⟩ = some (.int .u32 t.ge) := HT6.out.cell 3
              have c4 : wr.cell? ⟨w.heap.size, 4, none⟩ = some (.bool t.ap) := HT6.out.cell 4
              have d0 : wr.cell? ⟨w2c.heap.size, 0, none⟩ = some (.slice A4 (moreT t ⟨h, key⟩).rs.length c4n) := HKr.out.cell 0
              have d1 : wr.cell? ⟨w2c.heap.size, 1, none⟩ = some (.int .i64 (moreT t ⟨h, key⟩).ty) := HKr.out.cell 1
              have d2 : wr.cell? ⟨w2c.heap.size, 2, none⟩ = some (.string (moreT t ⟨h, key⟩).ho) := HKr.out.cell 2
              have d3 : wr.cell? ⟨w2c.heap.size, 3, none⟩ = some (.int .u32 (moreT t ⟨h, key⟩).ge) := HKr.out.cell 3
              have d4 : wr.cell? ⟨w2c.heap.size, 4, none⟩ = some (.bool (moreT t ⟨h, key⟩).ap) := HKr.out.cell 4
              go_wp2_with (fail)
              refine (refType_any t.ty _).mono ?_; rintro e wx ⟨rfl, rfl⟩
              rw [HTy.out]
              go_wp2_with (fail)
              refine (may_any A4 c4n (moreT t ⟨h, key⟩) h 3 _ HPr.out HM5.out HTr.out).mono ?_; rintro e w7 ⟨rfl, hb⟩
              rw [HNw.out]
              have HB7 := Lib.hid (HBw.out.trans (hb.mono HBw.out.size)); have HT7 := Lib.hid (HTr.out.below hb)
              clear hb c0 c1 c2 c3 c4 d0 d1 d2 d3 d4
              go_wp2_with (fail)
              refine (wakes_any _ HT7.out).mono ?_; rintro e w9 ⟨rfl, hb9⟩
              have HB9 := Lib.hid (HB7.out.trans (hb9.mono HB7.out.size)); clear hb9
              go_wp2_with (fail)
              go_ret
              exact ⟨rfl, HB9.out⟩
end Go.Proofs.YtememccaiimgbaaDoor
