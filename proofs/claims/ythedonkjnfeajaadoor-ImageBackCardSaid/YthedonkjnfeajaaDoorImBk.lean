/- What was kept is read as it was, what is read would be kept as it is. -/
import Derived.Test.YthedonkjnfeajaaDoorImK
import Derived.Test.YthedonkjnfeajaaDoorImO
namespace Go.Proofs.YthedonkjnfeajaaDoor
open Go.RowKit
theorem enc_dec {s : ByteArray} (h : imB s = true) : GoodP (readT (lst s)) ∧ encS (readT (lst s)) = s ∧ encC (readT (lst s)) = 0 := by
  have q := h
  unfold imB at q
  rw [Bool.and_eq_true] at q
  have hs : baL (imgL (readT (lst s))) = s := lst_inj (by rw [lst_baL]; exact beq_iff_eq.1 q.2)
  unfold encS encC
  rw [if_pos q.1, if_pos q.1]
  exact ⟨goodB_iff.1 q.1, hs, rfl⟩
theorem img_size {t : Tl} (hg : GoodP t) : (baL (imgL t)).size ≤ 2004 := by
  rw [baL_size]
  unfold imgL
  rw [List.length_append, dig_len]
  have := body_length hg
  omega
theorem enc_good {t : Tl} (h : goodB t = true) : encS t = baL (imgL t) ∧ encC t = 0 := by
  unfold encS encC
  rw [if_pos h, if_pos h]
  exact ⟨rfl, rfl⟩
theorem enc_bad {t : Tl} (h : goodB t = false) : encS t = ⟨#[]⟩ ∧ encC t = 1 := by
  unfold encS encC
  rw [h]
  exact ⟨rfl, rfl⟩
set_option maxRecDepth 100000 in
set_option maxHeartbeats 8000000 in
theorem back_any (A : Option Addr) (c : Nat) (t : Tl) (s : ByteArray) (w : World) (hl : Rgs w A t.rs) (hm : t.rs.length ≤ maxLen) (hu : TlU t) (ht : Tab w) : Calls Tryd.prog 5 #[tlV A c t, .string s] w fun e w' => e = .returned (.bool true) ∧ Below w.heap.size w w' := by
  obtain ⟨h1, h2, h3⟩ := tl_box w A c t _ rfl
  have HX := Lib.hid (TBx.first w A c t hl); have HB := Lib.hid h2
  have HT := Lib.hid (ht.below h2)
  have HM := Lib.hid hm; have HU := Lib.hid hu
  clear h1 h2 h3 hl hm hu ht
  go_enter Tryd.func5, Tryd.ntmps5
  go_upto_region 1 with (fail)
  change Code.wp _ _ _ _ (w.alloc (.cells (tlC A c t) 27))
  generalize w.alloc (.cells (tlC A c t) 27) = w0 at *
  have c0 : w0.cell? ⟨w.heap.size, 0, none⟩ = some (.slice A t.rs.length c) := HX.out.bx.cell 0
  have c1 : w0.cell? ⟨w.heap.size, 1, none⟩ = some (.int .i64 t.ty) := HX.out.bx.cell 1
  have c2 : w0.cell? ⟨w.heap.size, 2, none⟩ = some (.string t.ho) := HX.out.bx.cell 2
  have c3 : w0.cell? ⟨w.heap.size, 3, none⟩ = some (.int .u32 t.ge) := HX.out.bx.cell 3
  have c4 : w0.cell? ⟨w.heap.size, 4, none⟩ = some (.bool t.ap) := HX.out.bx.cell 4
  go_wp2_with (fail)
  refine (largeX_any A c t _ HX.out.rg HM.out).mono ?_; rintro e w1 ⟨r, rfl, hr, hb⟩
  have HX1 := Lib.hid (HX.out.below hb); have HB1 := Lib.hid (HB.out.trans (hb.mono HB.out.size)); have HT1 := Lib.hid (HT.out.below hb)
  have HR := Lib.hid hr
  clear hb hr c0 c1 c2 c3 c4 HX HB HT
  cases r with
  | true =>
    clear HR
    go_wp2_with (fail)
    refine (img_wakes _ HT1.out).mono ?_; rintro e w9 ⟨rfl, hb⟩
    have HB9 := Lib.hid (HB1.out.trans (hb.mono HB1.out.size))
    clear hb
    go_wp2_with (fail)
    go_ret
    exact ⟨rfl, HB9.out⟩
  | false =>
    have HN := Lib.hid (show t.rs.length ≤ 1000 from Nat.le_trans (HR.out rfl).1 (by decide))
    have HN2 := Lib.hid (show t.rs.length ≤ 100000 from Nat.le_trans (HR.out rfl).1 (by decide))
    clear HR
    by_cases g : 5000 < s.size
    · have i1 : (5000 : Int) < s.size := by omega
      clear g
      go_wp2_with (fail)
      refine (img_wakes _ HT1.out).mono ?_; rintro e w9 ⟨rfl, hb⟩
      have HB9 := Lib.hid (HB1.out.trans (hb.mono HB1.out.size))
      clear hb
      go_wp2_with (fail)
      go_ret
      exact ⟨rfl, HB9.out⟩
    · have i1 : ¬ (5000 : Int) < s.size := by omega
      have HS := Lib.hid (show s.size ≤ 100000 by omega)
      clear g
      have c0 : w1.cell? ⟨w.heap.size, 0, none⟩ = some (.slice A t.rs.length c) := HX1.out.bx.cell 0
      have c1 : w1.cell? ⟨w.heap.size, 1, none⟩ = some (.int .i64 t.ty) := HX1.out.bx.cell 1
      have c2 : w1.cell? ⟨w.heap.size, 2, none⟩ = some (.string t.ho) := HX1.out.bx.cell 2
      have c3 : w1.cell? ⟨w.heap.size, 3, none⟩ = some (.int .u32 t.ge) := HX1.out.bx.cell 3
      have c4 : w1.cell? ⟨w.heap.size, 4, none⟩ = some (.bool t.ap) := HX1.out.bx.cell 4
      go_wp2_with (fail)
      refine (copy_any A c t _ HX1.out.rg HN.out).mono ?_; rintro e w2 ⟨A2, n2, rfl, ho, hb⟩
      have HX2 := Lib.hid (HX1.out.below hb); have HB2 := Lib.hid (HB1.out.trans (hb.mono HB1.out.size)); have HT2 := Lib.hid (HT1.out.below hb); have HO2 := Lib.hid ho.rgs
      clear hb ho c0 c1 c2 c3 c4 HX1 HB1 HT1
      go_wp2_with (fail)
      refine (encode_any A2 n2 t _ HO2.out HM.out HU.out HT2.out).mono ?_; rintro e w3 ⟨rfl, hb⟩
      have HX3 := Lib.hid (HX2.out.below hb); have HB3 := Lib.hid (HB2.out.trans (hb.mono HB2.out.size)); have HT3 := Lib.hid (HT2.out.below hb)
      clear hb HX2 HB2 HT2 HO2
      cases hg : goodB t with
      | false =>
        rw [(enc_bad hg).1, (enc_bad hg).2]
        clear hg
        go_wp2_with (fail)
        cases hi : imB s with
        | false =>
          have HDc := Lib.hid (show decT s = tZ ∧ decC s = 61 by unfold decT decC; rw [hi]; exact ⟨rfl, rfl⟩)
          refine (decode_any s _ HS.out HT3.out).mono ?_; rintro e v8 ⟨A8, n8, rfl, ho, hb⟩
          rw [HDc.out.1] at ho
          rw [HDc.out.1, HDc.out.2]
          have HZ := Lib.hid (TBx.first v8 A8 n8 tZ ho.rgs)
          have hbb := hb.trans ((bel_alloc v8 (.cells (tlC A8 n8 tZ) 27)).mono hb.size)
          have HB9 := Lib.hid (HB3.out.trans (hbb.mono HB3.out.size))
          have HT9 := Lib.hid (HT3.out.below hbb)
          clear hb hbb ho
          go_upto_region 9 with (fail)
          change Code.wp _ _ _ _ (v8.alloc (.cells (tlC A8 n8 tZ) 27))
          generalize hww : v8.alloc (.cells (tlC A8 n8 tZ) 27) = v9 at *
          clear hww
          obtain ⟨p9, hq⟩ : ∃ q, q = v8.heap.size := ⟨_, rfl⟩
          rw [← hq] at HZ; rw [← hq]; clear hq
          have d0 : v9.cell? ⟨p9, 0, none⟩ = some (.slice A8 0 n8) := HZ.out.bx.cell 0
          have d1 : v9.cell? ⟨p9, 1, none⟩ = some (.int .i64 0) := HZ.out.bx.cell 1
          have d2 : v9.cell? ⟨p9, 2, none⟩ = some (.string tZ.ho) := HZ.out.bx.cell 2
          have d3 : v9.cell? ⟨p9, 3, none⟩ = some (.int .u32 tZ.ge) := HZ.out.bx.cell 3
          have d4 : v9.cell? ⟨p9, 4, none⟩ = some (.bool tZ.ap) := HZ.out.bx.cell 4
          go_wp2_with (fail)
          refine (img_wakes _ HT9.out).mono ?_; rintro e w9 ⟨rfl, hb⟩
          have HB9 := Lib.hid (HB9.out.trans (hb.mono HB9.out.size))
          clear hb
          go_wp2_with (fail)
          go_ret
          exact ⟨rfl, HB9.out⟩
        | true =>
          have HEd := Lib.hid (enc_dec hi)
          have HDc := Lib.hid (show decT s = readT (lst s) ∧ decC s = 0 by unfold decT decC; rw [if_pos hi, if_pos hi]; exact ⟨rfl, rfl⟩)
          have HUt := Lib.hid (readT_u (lst s))
          generalize readT (lst s) = te at *
          have HLt := Lib.hid (show te.rs.length ≤ maxLen from Nat.le_trans HEd.out.1.len (by decide))
          refine (decode_any s _ HS.out HT3.out).mono ?_; rintro e v8 ⟨A8, n8, rfl, ho, hb⟩
          rw [HDc.out.1] at ho
          rw [HDc.out.1, HDc.out.2]
          have HZ := Lib.hid (TBx.first v8 A8 n8 te ho.rgs)
          have hbb := hb.trans ((bel_alloc v8 (.cells (tlC A8 n8 te) 27)).mono hb.size)
          have HB9 := Lib.hid (HB3.out.trans (hbb.mono HB3.out.size))
          have HT9 := Lib.hid (HT3.out.below hbb)
          clear hb hbb ho
          go_upto_region 9 with (fail)
          change Code.wp _ _ _ _ (v8.alloc (.cells (tlC A8 n8 te) 27))
          generalize hww : v8.alloc (.cells (tlC A8 n8 te) 27) = v9 at *
          clear hww
          obtain ⟨p9, hq⟩ : ∃ q, q = v8.heap.size := ⟨_, rfl⟩
          rw [← hq] at HZ; rw [← hq]; clear hq
          have d0 : v9.cell? ⟨p9, 0, none⟩ = some (.slice A8 te.rs.length n8) := HZ.out.bx.cell 0
          have d1 : v9.cell? ⟨p9, 1, none⟩ = some (.int .i64 te.ty) := HZ.out.bx.cell 1
          have d2 : v9.cell? ⟨p9, 2, none⟩ = some (.string te.ho) := HZ.out.bx.cell 2
          have d3 : v9.cell? ⟨p9, 3, none⟩ = some (.int .u32 te.ge) := HZ.out.bx.cell 3
          have d4 : v9.cell? ⟨p9, 4, none⟩ = some (.bool te.ap) := HZ.out.bx.cell 4
          go_wp2_with (fail)
          refine (encode_any A8 n8 te _ HZ.out.rg HLt.out HUt.out HT9.out).mono ?_; rintro e v10 ⟨rfl, hb⟩
          rw [HEd.out.2.1, HEd.out.2.2]
          have HB10 := Lib.hid (HB9.out.trans (hb.mono HB9.out.size)); have HT10 := Lib.hid (HT9.out.below hb)
          have e9 : (s.toList == s.toList) = true := by simp
          clear hb
          go_wp2_with (fail)
          refine (img_wakes _ HT10.out).mono ?_; rintro e w9 ⟨rfl, hb⟩
          have HB9 := Lib.hid (HB10.out.trans (hb.mono HB10.out.size))
          clear hb
          go_wp2_with (fail)
          go_ret
          exact ⟨rfl, HB9.out⟩
      | true =>
        have hP := goodB_iff.1 hg
        rw [(enc_good hg).1, (enc_good hg).2]
        have HDi := Lib.hid (dec_img hP HU.out)
        have hz := img_size hP
        have HZs := Lib.hid (show (baL (imgL t)).size ≤ 100000 by omega)
        clear hg hP
        generalize baL (imgL t) = es at *
        have hzI : ¬ (2048 : Int) < es.size := by omega
        clear hz
        go_wp2_with (fail)
        refine (decode_any es _ HZs.out HT3.out).mono ?_; rintro e v4 ⟨A4, n4, rfl, ho, hb⟩
        rw [HDi.out.1] at ho
        rw [HDi.out.1, HDi.out.2]
        have HY := Lib.hid (TBx.first v4 A4 n4 t ho.rgs)
        have hbb := hb.trans ((bel_alloc v4 (.cells (tlC A4 n4 t) 27)).mono hb.size)
        have HX5 := Lib.hid (HX3.out.below hbb)
        have HB5 := Lib.hid (HB3.out.trans (hbb.mono HB3.out.size))
        have HT5 := Lib.hid (HT3.out.below hbb)
        clear hb hbb ho
        go_upto_region 6 with (fail)
        change Code.wp _ _ _ _ (v4.alloc (.cells (tlC A4 n4 t) 27))
        generalize hww : v4.alloc (.cells (tlC A4 n4 t) 27) = v5 at *
        clear hww
        obtain ⟨p7, hq⟩ : ∃ q, q = v4.heap.size := ⟨_, rfl⟩
        rw [← hq] at HY; rw [← hq]; clear hq
        have c0 : v5.cell? ⟨w.heap.size, 0, none⟩ = some (.slice A t.rs.length c) := HX5.out.bx.cell 0
        have c1 : v5.cell? ⟨w.heap.size, 1, none⟩ = some (.int .i64 t.ty) := HX5.out.bx.cell 1
        have c2 : v5.cell? ⟨w.heap.size, 2, none⟩ = some (.string t.ho) := HX5.out.bx.cell 2
        have c3 : v5.cell? ⟨w.heap.size, 3, none⟩ = some (.int .u32 t.ge) := HX5.out.bx.cell 3
        have c4 : v5.cell? ⟨w.heap.size, 4, none⟩ = some (.bool t.ap) := HX5.out.bx.cell 4
        have d0 : v5.cell? ⟨p7, 0, none⟩ = some (.slice A4 t.rs.length n4) := HY.out.bx.cell 0
        have d1 : v5.cell? ⟨p7, 1, none⟩ = some (.int .i64 t.ty) := HY.out.bx.cell 1
        have d2 : v5.cell? ⟨p7, 2, none⟩ = some (.string t.ho) := HY.out.bx.cell 2
        have d3 : v5.cell? ⟨p7, 3, none⟩ = some (.int .u32 t.ge) := HY.out.bx.cell 3
        have d4 : v5.cell? ⟨p7, 4, none⟩ = some (.bool t.ap) := HY.out.bx.cell 4
        go_wp2_with (fail)
        refine (tables_same A A4 c n4 t _ HX5.out.rg HY.out.rg HN2.out).mono ?_; rintro e v6 ⟨rfl, hb⟩
        have HB6 := Lib.hid (HB5.out.trans (hb.mono HB5.out.size)); have HT6 := Lib.hid (HT5.out.below hb)
        clear hb c0 c1 c2 c3 c4 d0 d1 d2 d3 d4 HX5 HY HB5 HT5 HX3 HB3 HT3
        go_wp2_with (fail)
        cases hi : imB s with
        | false =>
          have HDc := Lib.hid (show decT s = tZ ∧ decC s = 61 by unfold decT decC; rw [hi]; exact ⟨rfl, rfl⟩)
          refine (decode_any s _ HS.out HT6.out).mono ?_; rintro e v8 ⟨A8, n8, rfl, ho, hb⟩
          rw [HDc.out.1] at ho
          rw [HDc.out.1, HDc.out.2]
          have HZ := Lib.hid (TBx.first v8 A8 n8 tZ ho.rgs)
          have hbb := hb.trans ((bel_alloc v8 (.cells (tlC A8 n8 tZ) 27)).mono hb.size)
          have HB9 := Lib.hid (HB6.out.trans (hbb.mono HB6.out.size))
          have HT9 := Lib.hid (HT6.out.below hbb)
          clear hb hbb ho
          go_upto_region 9 with (fail)
          change Code.wp _ _ _ _ (v8.alloc (.cells (tlC A8 n8 tZ) 27))
          generalize hww : v8.alloc (.cells (tlC A8 n8 tZ) 27) = v9 at *
          clear hww
          obtain ⟨p9, hq⟩ : ∃ q, q = v8.heap.size := ⟨_, rfl⟩
          rw [← hq] at HZ; rw [← hq]; clear hq
          have d0 : v9.cell? ⟨p9, 0, none⟩ = some (.slice A8 0 n8) := HZ.out.bx.cell 0
          have d1 : v9.cell? ⟨p9, 1, none⟩ = some (.int .i64 0) := HZ.out.bx.cell 1
          have d2 : v9.cell? ⟨p9, 2, none⟩ = some (.string tZ.ho) := HZ.out.bx.cell 2
          have d3 : v9.cell? ⟨p9, 3, none⟩ = some (.int .u32 tZ.ge) := HZ.out.bx.cell 3
          have d4 : v9.cell? ⟨p9, 4, none⟩ = some (.bool tZ.ap) := HZ.out.bx.cell 4
          go_wp2_with (fail)
          refine (img_wakes _ HT9.out).mono ?_; rintro e w9 ⟨rfl, hb⟩
          have HB9 := Lib.hid (HB9.out.trans (hb.mono HB9.out.size))
          clear hb
          go_wp2_with (fail)
          go_ret
          exact ⟨rfl, HB9.out⟩
        | true =>
          have HEd := Lib.hid (enc_dec hi)
          have HDc := Lib.hid (show decT s = readT (lst s) ∧ decC s = 0 by unfold decT decC; rw [if_pos hi, if_pos hi]; exact ⟨rfl, rfl⟩)
          have HUt := Lib.hid (readT_u (lst s))
          generalize readT (lst s) = te at *
          have HLt := Lib.hid (show te.rs.length ≤ maxLen from Nat.le_trans HEd.out.1.len (by decide))
          refine (decode_any s _ HS.out HT6.out).mono ?_; rintro e v8 ⟨A8, n8, rfl, ho, hb⟩
          rw [HDc.out.1] at ho
          rw [HDc.out.1, HDc.out.2]
          have HZ := Lib.hid (TBx.first v8 A8 n8 te ho.rgs)
          have hbb := hb.trans ((bel_alloc v8 (.cells (tlC A8 n8 te) 27)).mono hb.size)
          have HB9 := Lib.hid (HB6.out.trans (hbb.mono HB6.out.size))
          have HT9 := Lib.hid (HT6.out.below hbb)
          clear hb hbb ho
          go_upto_region 9 with (fail)
          change Code.wp _ _ _ _ (v8.alloc (.cells (tlC A8 n8 te) 27))
          generalize hww : v8.alloc (.cells (tlC A8 n8 te) 27) = v9 at *
          clear hww
          obtain ⟨p9, hq⟩ : ∃ q, q = v8.heap.size := ⟨_, rfl⟩
          rw [← hq] at HZ; rw [← hq]; clear hq
          have d0 : v9.cell? ⟨p9, 0, none⟩ = some (.slice A8 te.rs.length n8) := HZ.out.bx.cell 0
          have d1 : v9.cell? ⟨p9, 1, none⟩ = some (.int .i64 te.ty) := HZ.out.bx.cell 1
          have d2 : v9.cell? ⟨p9, 2, none⟩ = some (.string te.ho) := HZ.out.bx.cell 2
          have d3 : v9.cell? ⟨p9, 3, none⟩ = some (.int .u32 te.ge) := HZ.out.bx.cell 3
          have d4 : v9.cell? ⟨p9, 4, none⟩ = some (.bool te.ap) := HZ.out.bx.cell 4
          go_wp2_with (fail)
          refine (encode_any A8 n8 te _ HZ.out.rg HLt.out HUt.out HT9.out).mono ?_; rintro e v10 ⟨rfl, hb⟩
          rw [HEd.out.2.1, HEd.out.2.2]
          have HB10 := Lib.hid (HB9.out.trans (hb.mono HB9.out.size)); have HT10 := Lib.hid (HT9.out.below hb)
          have e9 : (s.toList == s.toList) = true := by simp
          clear hb
          go_wp2_with (fail)
          refine (img_wakes _ HT10.out).mono ?_; rintro e w9 ⟨rfl, hb⟩
          have HB9 := Lib.hid (HB10.out.trans (hb.mono HB10.out.size))
          clear hb
          go_wp2_with (fail)
          go_ret
          exact ⟨rfl, HB9.out⟩
end Go.Proofs.YthedonkjnfeajaaDoor
