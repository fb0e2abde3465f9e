/- Which tables are good: who may hold. -/
import Derived.Test.YthedonkjnfeajaaDoorReU
namespace Go.Proofs.YthedonkjnfeajaaDoor
open Go.RowKit
set_option maxRecDepth 100000 in
set_option maxHeartbeats 2000000 in
theorem isHold_any (A : Option Addr) (c : Nat) (t : Tl) (w : World) (hl : Rgs w A t.rs) (hm : t.rs.length ≤ maxLen) :
    Calls Tryd.prog 26 #[tlV A c t] w fun e w' => e = .returned (.bool (holdB t)) ∧ Below w.heap.size w w' := by
  unfold maxLen at hm
  obtain ⟨h1, h2, h3⟩ := tl_box w A c t _ rfl
  have HT := Lib.hid h1; have HB := Lib.hid h2
  have HL := Lib.hid (hl.below h2)
  have HS := Lib.hid (fun v => shared_any t.ty v)
  have HTy := Lib.hid (fun v => type_any t.ty v)
  have HI := Lib.hid (fun v (hb : Below (w.alloc (.cells (tlC A c t) 27)).heap.size (w.alloc (.cells (tlC A c t) 27)) v) => indexOf_any A c t.rs t.ho v (HL.out.below hb) (by unfold maxLen; omega))
  have hf : holdB t = if t.ty = 0 then t.ho.toList.isEmpty else if shB t.ty then t.ho.toList.isEmpty && decide (0 < t.rs.length) else typeB t.ty && regB t.rs t.ho := rfl
  clear h1 h2 h3 hl
  cases hz : (t.ty == 0) with
  | true =>
    rw [if_pos (eqB hz)] at hf
    have HF := Lib.hid hf
    clear hf
    go_enter Tryd.func26, Tryd.ntmps26
    go_upto_region 1 with (fail)
    change Code.wp _ _ _ _ (w.alloc (.cells (tlC A c t) 27))
    generalize w.alloc (.cells (tlC A c t) 27) = w0 at *
    have c1 : w0.cell? ⟨w.heap.size, 1, none⟩ = some (.int .i64 t.ty) := HT.out.cell 1
    have c2 : w0.cell? ⟨w.heap.size, 2, none⟩ = some (.string t.ho) := HT.out.cell 2
    go_wp2_with (fail)
    go_ret
    exact ⟨by rw [HF.out]; rfl, HB.out⟩
  | false =>
    rw [if_neg (neB hz)] at hf
    cases hs : shB t.ty with
    | true =>
      rw [hs] at HS
      rw [if_pos hs] at hf
      cases he : t.ho.toList.isEmpty with
      | false =>
        rw [he, Bool.false_and] at hf
        have HF := Lib.hid hf
        have hn : ¬ t.ho.toList = [] := fun h => by rw [h] at he; cases he
        clear hf hs
        go_enter Tryd.func26, Tryd.ntmps26
        go_upto_region 1 with (fail)
        change Code.wp _ _ _ _ (w.alloc (.cells (tlC A c t) 27))
        generalize w.alloc (.cells (tlC A c t) 27) = w0 at *
        have c1 : w0.cell? ⟨w.heap.size, 1, none⟩ = some (.int .i64 t.ty) := HT.out.cell 1
        have c2 : w0.cell? ⟨w.heap.size, 2, none⟩ = some (.string t.ho) := HT.out.cell 2
        go_wp2_with (fail)
        refine (HS.out _).mono ?_; rintro e w1 ⟨rfl, rfl⟩
        go_wp2_with (fail)
        go_ret
        exact ⟨by rw [HF.out]; rfl, HB.out⟩
      | true =>
        rw [he, Bool.true_and] at hf
        have HF := Lib.hid hf
        have hn : t.ho.toList = [] := List.isEmpty_iff.1 he
        clear hf hs
        go_enter Tryd.func26, Tryd.ntmps26
        go_upto_region 1 with (fail)
        change Code.wp _ _ _ _ (w.alloc (.cells (tlC A c t) 27))
        generalize w.alloc (.cells (tlC A c t) 27) = w0 at *
        have c0 : w0.cell? ⟨w.heap.size, 0, none⟩ = some (.slice A t.rs.length c) := HT.out.cell 0
        have c1 : w0.cell? ⟨w.heap.size, 1, none⟩ = some (.int .i64 t.ty) := HT.out.cell 1
        have c2 : w0.cell? ⟨w.heap.size, 2, none⟩ = some (.string t.ho) := HT.out.cell 2
        go_wp2_with (fail)
        refine (HS.out _).mono ?_; rintro e w1 ⟨rfl, rfl⟩
        go_wp2_with (fail)
        go_ret
        exact ⟨by rw [HF.out]; rfl, HB.out⟩
    | false =>
      rw [hs] at HS
      rw [if_neg (by rw [hs]; decide)] at hf
      cases ht : typeB t.ty with
      | false =>
        rw [ht] at HTy
        rw [ht, Bool.false_and] at hf
        have HF := Lib.hid hf
        clear hf hs ht
        go_enter Tryd.func26, Tryd.ntmps26
        go_upto_region 1 with (fail)
        change Code.wp _ _ _ _ (w.alloc (.cells (tlC A c t) 27))
        generalize w.alloc (.cells (tlC A c t) 27) = w0 at *
        have c1 : w0.cell? ⟨w.heap.size, 1, none⟩ = some (.int .i64 t.ty) := HT.out.cell 1
        have c2 : w0.cell? ⟨w.heap.size, 2, none⟩ = some (.string t.ho) := HT.out.cell 2
        go_wp2_with (fail)
        refine (HS.out _).mono ?_; rintro e w1 ⟨rfl, rfl⟩
        go_wp2_with (fail)
        refine (HTy.out _).mono ?_; rintro e w1 ⟨rfl, rfl⟩
        go_wp2_with (fail)
        go_ret
        exact ⟨by rw [HF.out]; rfl, HB.out⟩
      | true =>
        rw [ht] at HTy
        rw [ht, Bool.true_and] at hf
        have hge := findQ_ge (isH t.ho) t.rs
        have hfr : regB t.rs t.ho = t.rs.any (isH t.ho) := rfl
        rw [hfr, ← hge] at hf
        have HF := Lib.hid hf
        clear hf hs ht hge hfr
        generalize findQ (isH t.ho) t.rs = f at *
        go_enter Tryd.func26, Tryd.ntmps26
        go_upto_region 1 with (fail)
        change Code.wp _ _ _ _ (w.alloc (.cells (tlC A c t) 27))
        generalize w.alloc (.cells (tlC A c t) 27) = w0 at *
        have c0 : w0.cell? ⟨w.heap.size, 0, none⟩ = some (.slice A t.rs.length c) := HT.out.cell 0
        have c1 : w0.cell? ⟨w.heap.size, 1, none⟩ = some (.int .i64 t.ty) := HT.out.cell 1
        have c2 : w0.cell? ⟨w.heap.size, 2, none⟩ = some (.string t.ho) := HT.out.cell 2
        go_wp2_with (fail)
        refine (HS.out _).mono ?_; rintro e w1 ⟨rfl, rfl⟩
        go_wp2_with (fail)
        refine (HTy.out _).mono ?_; rintro e w1 ⟨rfl, rfl⟩
        go_wp2_with (fail)
        refine (HI.out _ (Below.refl _ _)).mono ?_; rintro e w1 ⟨rfl, hb1⟩
        go_wp2_with (fail)
        go_ret
        exact ⟨by rw [HF.out]; rfl, HB.out.trans (hb1.mono HB.out.size)⟩
set_option maxHeartbeats 2000000 in
theorem good_any (A : Option Addr) (c : Nat) (t : Tl) (w : World) (hl : Rgs w A t.rs) (hm : t.rs.length ≤ maxLen) :
    Calls Tryd.prog 16 #[tlV A c t] w fun e w' => e = .returned (.bool (goodB t)) ∧ Below w.heap.size w w' := by
  obtain ⟨h1, h2, h3⟩ := tl_box w A c t _ rfl
  have HT := Lib.hid h1; have HB := Lib.hid h2
  have HL := Lib.hid (hl.below h2)
  have HR := Lib.hid (areRegs_any A c t.rs _ HL.out hm)
  have HH := Lib.hid (fun v (hb : Below (w.alloc (.cells (tlC A c t) 27)).heap.size (w.alloc (.cells (tlC A c t) 27)) v) => isHold_any A c t v (HL.out.below hb) hm)
  have hf : goodB t = (regsB t.rs && holdB t) := rfl
  clear h1 h2 h3 hl
  cases hr : regsB t.rs with
  | false =>
    rw [hr] at HR hf
    rw [Bool.false_and] at hf
    have HF := Lib.hid hf
    clear hf hr HH
    go_enter Tryd.func16, Tryd.ntmps16
    go_upto_region 1 with (fail)
    change Code.wp _ _ _ _ (w.alloc (.cells (tlC A c t) 27))
    generalize w.alloc (.cells (tlC A c t) 27) = w0 at *
    have c0 : w0.cell? ⟨w.heap.size, 0, none⟩ = some (.slice A t.rs.length c) := HT.out.cell 0
    go_wp2_with (fail)
    refine HR.out.mono ?_; rintro e w1 ⟨rfl, hb1⟩
    go_wp2_with (fail)
    go_ret
    exact ⟨by rw [HF.out]; rfl, HB.out.trans (hb1.mono HB.out.size)⟩
  | true =>
    rw [hr] at HR hf
    rw [Bool.true_and] at hf
    have HF := Lib.hid hf
    clear hf hr
    go_enter Tryd.func16, Tryd.ntmps16
    go_upto_region 1 with (fail)
    change Code.wp _ _ _ _ (w.alloc (.cells (tlC A c t) 27))
    generalize w.alloc (.cells (tlC A c t) 27) = w0 at *
    have c0 : w0.cell? ⟨w.heap.size, 0, none⟩ = some (.slice A t.rs.length c) := HT.out.cell 0
    go_wp2_with (fail)
    refine HR.out.mono ?_; rintro e w1 ⟨rfl, hb1⟩
    have HT1 := Lib.hid (HT.out.below hb1 HT.out.lt); have HB1 := Lib.hid (HB.out.trans (hb1.mono HB.out.size))
    have HH1 := Lib.hid (HH.out w1 hb1)
    have c0 : w1.cell? ⟨w.heap.size, 0, none⟩ = some (.slice A t.rs.length c) := HT1.out.cell 0
    have c1 : w1.cell? ⟨w.heap.size, 1, none⟩ = some (.int .i64 t.ty) := HT1.out.cell 1
    have c2 : w1.cell? ⟨w.heap.size, 2, none⟩ = some (.string t.ho) := HT1.out.cell 2
    have c3 : w1.cell? ⟨w.heap.size, 3, none⟩ = some (.int .u32 t.ge) := HT1.out.cell 3
    have c4 : w1.cell? ⟨w.heap.size, 4, none⟩ = some (.bool t.ap) := HT1.out.cell 4
    clear hb1
    go_wp2_with (fail)
    refine HH1.out.mono ?_; rintro e w2 ⟨rfl, hb2⟩
    go_wp2_with (fail)
    go_ret
    exact ⟨by rw [HF.out]; rfl, HB1.out.trans (hb2.mono HB1.out.size)⟩
end Go.Proofs.YthedonkjnfeajaaDoor
