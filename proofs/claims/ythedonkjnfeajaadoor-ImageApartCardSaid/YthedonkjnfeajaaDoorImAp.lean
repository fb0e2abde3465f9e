/- Two tables that differ in anything have different images. -/
import Derived.Test.YthedonkjnfeajaaDoorImBk
namespace Go.Proofs.YthedonkjnfeajaaDoor
open Go.RowKit
theorem two_tbx (w : World) (A A' : Option Addr) (n n' : Nat) (t u : Tl) (h1 : Rgs w A t.rs) (h2 : Rgs w A' u.rs) : ∀ v, v = (w.alloc (.cells (tlC A n t) 27)).alloc (.cells (tlC A' n' u) 27) → TBx v w.heap.size A n t ∧ TBx v (w.heap.size + 1) A' n' u ∧ Below w.heap.size w v := by
  intro v hv
  obtain ⟨k1, k2, k3⟩ := two_tl w A A' n n' t u v hv
  exact ⟨⟨k1, h1.below k3⟩, ⟨k2, h2.below k3⟩, k3⟩
set_option maxRecDepth 100000 in
set_option maxHeartbeats 8000000 in
theorem apart_any (A A' : Option Addr) (n n' : Nat) (t u : Tl) (w : World) (hl : Rgs w A t.rs) (hm : t.rs.length ≤ maxLen) (hu : TlU t) (hl2 : Rgs w A' u.rs) (hm2 : u.rs.length ≤ maxLen) (hu2 : TlU u) (ht : Tab w) :
    Calls Tryd.prog 7 #[tlV A n t, tlV A' n' u] w fun e w' => e = .returned (.bool true) ∧ Below w.heap.size w w' := by
  obtain ⟨h1, h2, h3⟩ := two_tbx w A A' n n' t u hl hl2 _ rfl
  have HX := Lib.hid h1; have HY := Lib.hid h2; have HB := Lib.hid h3
  have HT := Lib.hid (ht.below h3)
  have HM := Lib.hid hm; have HU := Lib.hid hu; have HM2 := Lib.hid hm2; have HU2 := Lib.hid hu2
  clear h1 h2 h3 hl hm hu hl2 hm2 hu2 ht
  go_enter Tryd.func7, Tryd.ntmps7
  go_upto_region 1 with (fail)
  change Code.wp _ _ _ _ ((w.alloc (.cells (tlC A n t) 27)).alloc (.cells (tlC A' n' u) 27))
  generalize (w.alloc (.cells (tlC A n t) 27)).alloc (.cells (tlC A' n' u) 27) = w0 at *
  obtain ⟨p2, hp2⟩ : ∃ p, p = w.heap.size + 1 := ⟨_, rfl⟩
  rw [← hp2] at HY; rw [← hp2]; clear hp2
  have c0 : w0.cell? ⟨w.heap.size, 0, none⟩ = some (.slice A t.rs.length n) := HX.out.bx.cell 0
  have c1 : w0.cell? ⟨w.heap.size, 1, none⟩ = some (.int .i64 t.ty) := HX.out.bx.cell 1
  have c2 : w0.cell? ⟨w.heap.size, 2, none⟩ = some (.string t.ho) := HX.out.bx.cell 2
  have c3 : w0.cell? ⟨w.heap.size, 3, none⟩ = some (.int .u32 t.ge) := HX.out.bx.cell 3
  have c4 : w0.cell? ⟨w.heap.size, 4, none⟩ = some (.bool t.ap) := HX.out.bx.cell 4
  go_wp2_with (fail)
  refine (largeX_any A n t _ HX.out.rg HM.out).mono ?_; rintro e w1 ⟨r, rfl, hr, hb⟩
  have HX1 := Lib.hid (HX.out.below hb); have HY1 := Lib.hid (HY.out.below hb); have HB1 := Lib.hid (HB.out.trans (hb.mono HB.out.size)); have HT1 := Lib.hid (HT.out.below hb)
  have HR := Lib.hid hr
  clear hb hr c0 c1 c2 c3 c4 HX HY HB HT
  cases r with
  | true =>
    go_wp2_with (fail)
    refine (img_wakes _ HT1.out).mono ?_; rintro e w9 ⟨rfl, hb⟩
    have HB9 := Lib.hid (HB1.out.trans (hb.mono HB1.out.size))
    clear hb
    go_wp2_with (fail)
    go_ret
    exact ⟨rfl, HB9.out⟩
  | false =>
    have HN := Lib.hid (show t.rs.length ≤ 1000 from Nat.le_trans (HR.out rfl).1 (by decide))
    clear HR
    have d0 : w1.cell? ⟨p2, 0, none⟩ = some (.slice A' u.rs.length n') := HY1.out.bx.cell 0
    have d1 : w1.cell? ⟨p2, 1, none⟩ = some (.int .i64 u.ty) := HY1.out.bx.cell 1
    have d2 : w1.cell? ⟨p2, 2, none⟩ = some (.string u.ho) := HY1.out.bx.cell 2
    have d3 : w1.cell? ⟨p2, 3, none⟩ = some (.int .u32 u.ge) := HY1.out.bx.cell 3
    have d4 : w1.cell? ⟨p2, 4, none⟩ = some (.bool u.ap) := HY1.out.bx.cell 4
    go_wp2_with (fail)
    refine (largeX_any A' n' u _ HY1.out.rg HM2.out).mono ?_; rintro e w2 ⟨r, rfl, hr, hb⟩
    have HX2 := Lib.hid (HX1.out.below hb); have HY2 := Lib.hid (HY1.out.below hb); have HB2 := Lib.hid (HB1.out.trans (hb.mono HB1.out.size)); have HT2 := Lib.hid (HT1.out.below hb)
    have HR := Lib.hid hr
    clear hb hr d0 d1 d2 d3 d4 HX1 HY1 HB1 HT1
    cases r with
    | true =>
      go_wp2_with (fail)
      refine (img_wakes _ HT2.out).mono ?_; rintro e w9 ⟨rfl, hb⟩
      have HB9 := Lib.hid (HB2.out.trans (hb.mono HB2.out.size))
      clear hb
      go_wp2_with (fail)
      go_ret
      exact ⟨rfl, HB9.out⟩
    | false =>
      have HN2 := Lib.hid (show u.rs.length ≤ 1000 from Nat.le_trans (HR.out rfl).1 (by decide))
      clear HR
      have c0 : w2.cell? ⟨w.heap.size, 0, none⟩ = some (.slice A t.rs.length n) := HX2.out.bx.cell 0
      have c1 : w2.cell? ⟨w.heap.size, 1, none⟩ = some (.int .i64 t.ty) := HX2.out.bx.cell 1
      have c2 : w2.cell? ⟨w.heap.size, 2, none⟩ = some (.string t.ho) := HX2.out.bx.cell 2
      have c3 : w2.cell? ⟨w.heap.size, 3, none⟩ = some (.int .u32 t.ge) := HX2.out.bx.cell 3
      have c4 : w2.cell? ⟨w.heap.size, 4, none⟩ = some (.bool t.ap) := HX2.out.bx.cell 4
      go_wp2_with (fail)
      refine (copy_any A n t _ HX2.out.rg HN.out).mono ?_; rintro e w3 ⟨A3, n3, rfl, ho, hb⟩
      have HX3 := Lib.hid (HX2.out.below hb); have HY3 := Lib.hid (HY2.out.below hb); have HB3 := Lib.hid (HB2.out.trans (hb.mono HB2.out.size)); have HT3 := Lib.hid (HT2.out.below hb); have HO3 := Lib.hid ho.rgs
      clear hb ho c0 c1 c2 c3 c4 HX2 HY2 HB2 HT2
      go_wp2_with (fail)
      refine (encode_any A3 n3 t _ HO3.out HM.out HU.out HT3.out).mono ?_; rintro e w4 ⟨rfl, hb⟩
      have HX4 := Lib.hid (HX3.out.below hb); have HY4 := Lib.hid (HY3.out.below hb); have HB4 := Lib.hid (HB3.out.trans (hb.mono HB3.out.size)); have HT4 := Lib.hid (HT3.out.below hb)
      clear hb HX3 HY3 HB3 HT3 HO3
      obtain ⟨es, hes⟩ : ∃ x, x = encS t := ⟨_, rfl⟩
      obtain ⟨ec, hec⟩ : ∃ x, x = encC t := ⟨_, rfl⟩
      rw [← hes, ← hec]
      have HES := Lib.hid hes; have HEC := Lib.hid hec
      clear hes hec
      have d0 : w4.cell? ⟨p2, 0, none⟩ = some (.slice A' u.rs.length n') := HY4.out.bx.cell 0
      have d1 : w4.cell? ⟨p2, 1, none⟩ = some (.int .i64 u.ty) := HY4.out.bx.cell 1
      have d2 : w4.cell? ⟨p2, 2, none⟩ = some (.string u.ho) := HY4.out.bx.cell 2
      have d3 : w4.cell? ⟨p2, 3, none⟩ = some (.int .u32 u.ge) := HY4.out.bx.cell 3
      have d4 : w4.cell? ⟨p2, 4, none⟩ = some (.bool u.ap) := HY4.out.bx.cell 4
      go_wp2_with (fail)
      refine (copy_any A' n' u _ HY4.out.rg HN2.out).mono ?_; rintro e w5 ⟨A5, n5, rfl, ho, hb⟩
      have HX5 := Lib.hid (HX4.out.below hb); have HY5 := Lib.hid (HY4.out.below hb); have HB5 := Lib.hid (HB4.out.trans (hb.mono HB4.out.size)); have HT5 := Lib.hid (HT4.out.below hb); have HO5 := Lib.hid ho.rgs
      clear hb ho d0 d1 d2 d3 d4 HX4 HY4 HB4 HT4
      go_wp2_with (fail)
      refine (encode_any A5 n5 u _ HO5.out HM2.out HU2.out HT5.out).mono ?_; rintro e w6 ⟨rfl, hb⟩
      have HX6 := Lib.hid (HX5.out.below hb); have HY6 := Lib.hid (HY5.out.below hb); have HB6 := Lib.hid (HB5.out.trans (hb.mono HB5.out.size)); have HT6 := Lib.hid (HT5.out.below hb)
      clear hb HX5 HY5 HB5 HT5 HO5
      cases hg : goodB t with
      | false =>
        obtain ⟨rfl, rfl⟩ : es = ⟨#[]⟩ ∧ ec = 1 := ⟨HES.out.trans (enc_bad hg).1, HEC.out.trans (enc_bad hg).2⟩
        clear HES HEC hg
        cases hg2 : goodB u with
        | false =>
          rw [(enc_bad hg2).1, (enc_bad hg2).2]
          clear hg2
          go_wp2_with (fail)
          refine (img_wakes _ HT6.out).mono ?_; rintro e w9 ⟨rfl, hb⟩
          have HB9 := Lib.hid (HB6.out.trans (hb.mono HB6.out.size))
          clear hb
          go_wp2_with (fail)
          go_ret
          exact ⟨rfl, HB9.out⟩
        | true =>
          rw [(enc_good hg2).1, (enc_good hg2).2]
          clear hg2
          generalize baL (imgL u) = et at *
          go_wp2_with (fail)
          refine (img_wakes _ HT6.out).mono ?_; rintro e w9 ⟨rfl, hb⟩
          have HB9 := Lib.hid (HB6.out.trans (hb.mono HB6.out.size))
          clear hb
          go_wp2_with (fail)
          go_ret
          exact ⟨rfl, HB9.out⟩
      | true =>
        have hes : es = baL (imgL t) := HES.out.trans (enc_good hg).1
        obtain rfl : ec = 0 := HEC.out.trans (enc_good hg).2
        cases hg2 : goodB u with
        | false =>
          rw [(enc_bad hg2).1, (enc_bad hg2).2]
          clear hg2 hes HES HEC hg
          go_wp2_with (fail)
          refine (img_wakes _ HT6.out).mono ?_; rintro e w9 ⟨rfl, hb⟩
          have HB9 := Lib.hid (HB6.out.trans (hb.mono HB6.out.size))
          clear hb
          go_wp2_with (fail)
          go_ret
          exact ⟨rfl, HB9.out⟩
        | true =>
          rw [(enc_good hg2).1, (enc_good hg2).2]
          have hiff : (baL (imgL u) = es ↔ t = u) := by
            rw [hes]
            exact ⟨fun h => img_inj (goodB_iff.1 hg) HU.out (goodB_iff.1 hg2) HU2.out (by have q := congrArg lst h; rw [lst_baL, lst_baL] at q; exact q.symm), fun h => by rw [h]⟩
          have HI := Lib.hid hiff
          clear hg2 hes HES HEC hg hiff
          generalize baL (imgL u) = et at *
          obtain ⟨bb, hbb⟩ : ∃ b, (es.toList == et.toList) = b := ⟨_, rfl⟩
          have HBb := Lib.hid (show (bb = true ↔ es = et) by rw [← hbb]; exact eqS_iff)
          have c0 : w6.cell? ⟨w.heap.size, 0, none⟩ = some (.slice A t.rs.length n) := HX6.out.bx.cell 0
          have c1 : w6.cell? ⟨w.heap.size, 1, none⟩ = some (.int .i64 t.ty) := HX6.out.bx.cell 1
          have c2 : w6.cell? ⟨w.heap.size, 2, none⟩ = some (.string t.ho) := HX6.out.bx.cell 2
          have c3 : w6.cell? ⟨w.heap.size, 3, none⟩ = some (.int .u32 t.ge) := HX6.out.bx.cell 3
          have c4 : w6.cell? ⟨w.heap.size, 4, none⟩ = some (.bool t.ap) := HX6.out.bx.cell 4
          have d0 : w6.cell? ⟨p2, 0, none⟩ = some (.slice A' u.rs.length n') := HY6.out.bx.cell 0
          have d1 : w6.cell? ⟨p2, 1, none⟩ = some (.int .i64 u.ty) := HY6.out.bx.cell 1
          have d2 : w6.cell? ⟨p2, 2, none⟩ = some (.string u.ho) := HY6.out.bx.cell 2
          have d3 : w6.cell? ⟨p2, 3, none⟩ = some (.int .u32 u.ge) := HY6.out.bx.cell 3
          have d4 : w6.cell? ⟨p2, 4, none⟩ = some (.bool u.ap) := HY6.out.bx.cell 4
          go_wp2_with (fail)
          refine (tables_any A A' n n' t u _ HX6.out.rg HY6.out.rg (Nat.le_trans HN.out (by decide)) (Nat.le_trans HN2.out (by decide))).mono ?_; rintro e w7 ⟨r, rfl, hr, hb⟩
          have HB7 := Lib.hid (HB6.out.trans (hb.mono HB6.out.size)); have HT7 := Lib.hid (HT6.out.below hb)
          have hbr : r = bb := by
            have q : (r = true ↔ bb = true) := by rw [hr, HBb.out, ← HI.out]; exact eq_comm
            cases r <;> cases bb <;> simp_all
          subst hbr
          have hrr : (r == r) = true := by simp
          clear hb hr
          go_wp2_with (fail)
          refine (img_wakes _ HT7.out).mono ?_; rintro e w9 ⟨rfl, hb⟩
          have HB9 := Lib.hid (HB7.out.trans (hb.mono HB7.out.size))
          clear hb
          go_wp2_with (fail)
          go_ret
          exact ⟨rfl, HB9.out⟩
end Go.Proofs.YthedonkjnfeajaaDoor
