/- The image of any table: the two ways alike. -/
import Derived.Test.YthedonkjnfeajaaDoorImK
import Derived.Test.YthedonkjnfeajaaDoorImQ
namespace Go.Proofs.YthedonkjnfeajaaDoor
open Go.RowKit
set_option maxRecDepth 100000 in
set_option maxHeartbeats 8000000 in
theorem encodes_any (A : Option Addr) (c : Nat) (t : Tl) (w : World) (hl : Rgs w A t.rs) (hm : t.rs.length ≤ maxLen) (hu : TlU t) (ht : Tab w) : Calls Tryd.prog 3 #[tlV A c t] w fun e w' => e = .returned (.bool true) ∧ Below w.heap.size w w' := by
  obtain ⟨h1, h2, h3⟩ := tl_box w A c t _ rfl
  have HX := Lib.hid (TBx.first w A c t hl); have HB := Lib.hid h2
  have HT := Lib.hid (ht.below h2)
  have HM := Lib.hid hm; have HU := Lib.hid hu
  clear h1 h2 h3 hl hm hu ht
  go_enter Tryd.func3, Tryd.ntmps3
  go_upto_region 1 with (fail)
  change Code.wp _ _ _ _ (w.alloc (.cells (tlC A c t) 27))
  generalize w.alloc (.cells (tlC A c t) 27) = w0 at *
  have c0 : w0.cell? ⟨w.heap.size, 0, none⟩ = some (.slice A t.rs.length c) := HX.out.bx.cell 0
  have c1 : w0.cell? ⟨w.heap.size, 1, none⟩ = some (.int .i64 t.ty) := HX.out.bx.cell 1
  have c2 : w0.cell? ⟨w.heap.size, 2, none⟩ = some (.string t.ho) := HX.out.bx.cell 2
  have c3 : w0.cell? ⟨w.heap.size, 3, none⟩ = some (.int .u32 t.ge) := HX.out.bx.cell 3
  have c4 : w0.cell? ⟨w.heap.size, 4, none⟩ = some (.bool t.ap) := HX.out.bx.cell 4
  go_wp2_with (fail)
  refine (largeX_any A c t _ HX.out.rg HM.out).mono ?_; rintro e w1 ⟨r, rfl, hr, hb⟩
  have HX1 := Lib.hid (HX.out.below hb); have HB1 := Lib.hid (HB.out.trans (hb.mono HB.out.size)); have HT1 := Lib.hid (HT.out.below hb)
  have HR := Lib.hid hr
  clear hb hr c0 c1 c2 c3 c4 HX HB HT
  cases r with
  | true =>
    go_wp2_with (fail)
    refine (img_wakes _ HT1.out).mono ?_; rintro e w9 ⟨rfl, hb⟩
    have HB9 := Lib.hid (HB1.out.trans (hb.mono HB1.out.size))
    clear hb
    go_wp2_with (fail)
    go_ret
    exact ⟨rfl, HB9.out⟩
  | false =>
    have HN := Lib.hid (show t.rs.length ≤ 1000 from Nat.le_trans (HR.out rfl).1 (by decide))
    have HN2 := Lib.hid (show t.rs.length ≤ 100000 from Nat.le_trans (HR.out rfl).1 (by decide))
    clear HR
    have c0 : w1.cell? ⟨w.heap.size, 0, none⟩ = some (.slice A t.rs.length c) := HX1.out.bx.cell 0
    have c1 : w1.cell? ⟨w.heap.size, 1, none⟩ = some (.int .i64 t.ty) := HX1.out.bx.cell 1
    have c2 : w1.cell? ⟨w.heap.size, 2, none⟩ = some (.string t.ho) := HX1.out.bx.cell 2
    have c3 : w1.cell? ⟨w.heap.size, 3, none⟩ = some (.int .u32 t.ge) := HX1.out.bx.cell 3
    have c4 : w1.cell? ⟨w.heap.size, 4, none⟩ = some (.bool t.ap) := HX1.out.bx.cell 4
    go_wp2_with (fail)
    refine (copy_any A c t _ HX1.out.rg HN.out).mono ?_; rintro e w2 ⟨A2, n2, rfl, ho, hb⟩
    have HY := Lib.hid (TBx.first w2 A2 n2 t ho.rgs)
    have hb3 := hb.trans ((bel_alloc w2 (.cells (tlC A2 n2 t) 27)).mono hb.size)
    have HX3 := Lib.hid (HX1.out.below hb3); have HB3 := Lib.hid (HB1.out.trans (hb3.mono HB1.out.size)); have HT3 := Lib.hid (HT1.out.below hb3)
    clear hb hb3 ho c0 c1 c2 c3 c4 HX1 HB1 HT1
    go_upto_region 4 with (fail)
    change Code.wp _ _ _ _ (w2.alloc (.cells (tlC A2 n2 t) 27))
    generalize hw3 : w2.alloc (.cells (tlC A2 n2 t) 27) = w3 at *
    clear hw3
    obtain ⟨q, hq⟩ : ∃ q, q = w2.heap.size := ⟨_, rfl⟩
    rw [← hq] at HY; rw [← hq]; clear hq
    have d0 : w3.cell? ⟨q, 0, none⟩ = some (.slice A2 t.rs.length n2) := HY.out.bx.cell 0
    have d1 : w3.cell? ⟨q, 1, none⟩ = some (.int .i64 t.ty) := HY.out.bx.cell 1
    have d2 : w3.cell? ⟨q, 2, none⟩ = some (.string t.ho) := HY.out.bx.cell 2
    have d3 : w3.cell? ⟨q, 3, none⟩ = some (.int .u32 t.ge) := HY.out.bx.cell 3
    have d4 : w3.cell? ⟨q, 4, none⟩ = some (.bool t.ap) := HY.out.bx.cell 4
    go_wp2_with (fail)
    refine (encode_any A2 n2 t _ HY.out.rg HM.out HU.out HT3.out).mono ?_; rintro e w4 ⟨rfl, hb⟩
    have HX4 := Lib.hid (HX3.out.below hb); have HY4 := Lib.hid (HY.out.below hb); have HB4 := Lib.hid (HB3.out.trans (hb.mono HB3.out.size)); have HT4 := Lib.hid (HT3.out.below hb)
    have HR4 := Lib.hid (fun v (hv : Rgs v A t.rs) => refEncode_any A c t v hv HM.out HU.out)
    clear hb d0 d1 d2 d3 d4 HX3 HY HB3 HT3
    generalize encS t = es at *
    generalize encC t = ec at *
    have c0 : w4.cell? ⟨w.heap.size, 0, none⟩ = some (.slice A t.rs.length c) := HX4.out.bx.cell 0
    have c1 : w4.cell? ⟨w.heap.size, 1, none⟩ = some (.int .i64 t.ty) := HX4.out.bx.cell 1
    have c2 : w4.cell? ⟨w.heap.size, 2, none⟩ = some (.string t.ho) := HX4.out.bx.cell 2
    have c3 : w4.cell? ⟨w.heap.size, 3, none⟩ = some (.int .u32 t.ge) := HX4.out.bx.cell 3
    have c4 : w4.cell? ⟨w.heap.size, 4, none⟩ = some (.bool t.ap) := HX4.out.bx.cell 4
    go_wp2_with (fail)
    refine (HR4.out _ HX4.out.rg).mono ?_; rintro e w5 ⟨rfl, hb⟩
    have HX5 := Lib.hid (HX4.out.below hb); have HY5 := Lib.hid (HY4.out.below hb); have HB5 := Lib.hid (HB4.out.trans (hb.mono HB4.out.size)); have HT5 := Lib.hid (HT4.out.below hb)
    clear hb HX4 HY4 HB4 HT4 HR4
    have e1 : (es.toList == es.toList) = true := by simp
    have e2 : (ec == ec) = true := by simp
    have c0 : w5.cell? ⟨w.heap.size, 0, none⟩ = some (.slice A t.rs.length c) := HX5.out.bx.cell 0
    have c1 : w5.cell? ⟨w.heap.size, 1, none⟩ = some (.int .i64 t.ty) := HX5.out.bx.cell 1
    have c2 : w5.cell? ⟨w.heap.size, 2, none⟩ = some (.string t.ho) := HX5.out.bx.cell 2
    have c3 : w5.cell? ⟨w.heap.size, 3, none⟩ = some (.int .u32 t.ge) := HX5.out.bx.cell 3
    have c4 : w5.cell? ⟨w.heap.size, 4, none⟩ = some (.bool t.ap) := HX5.out.bx.cell 4
    have d0 : w5.cell? ⟨q, 0, none⟩ = some (.slice A2 t.rs.length n2) := HY5.out.bx.cell 0
    have d1 : w5.cell? ⟨q, 1, none⟩ = some (.int .i64 t.ty) := HY5.out.bx.cell 1
    have d2 : w5.cell? ⟨q, 2, none⟩ = some (.string t.ho) := HY5.out.bx.cell 2
    have d3 : w5.cell? ⟨q, 3, none⟩ = some (.int .u32 t.ge) := HY5.out.bx.cell 3
    have d4 : w5.cell? ⟨q, 4, none⟩ = some (.bool t.ap) := HY5.out.bx.cell 4
    go_wp2_with (fail)
    refine (tables_same A2 A n2 c t _ HY5.out.rg HX5.out.rg HN2.out).mono ?_; rintro e w6 ⟨rfl, hb⟩
    have HB6 := Lib.hid (HB5.out.trans (hb.mono HB5.out.size)); have HT6 := Lib.hid (HT5.out.below hb)
    clear hb
    go_wp2_with (fail)
    refine (img_wakes _ HT6.out).mono ?_; rintro e w9 ⟨rfl, hb⟩
    have HB9 := Lib.hid (HB6.out.trans (hb.mono HB6.out.size))
    clear hb
    go_wp2_with (fail)
    go_ret
    exact ⟨rfl, HB9.out⟩
end Go.Proofs.YthedonkjnfeajaaDoor
