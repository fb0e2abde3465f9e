/- What stays when the power goes, by the program and by the document. -/
import Derived.Test.YtgekadfkokkapaaDoorReX
import Derived.Test.YtgekadfkokkapaaDoorReSt
namespace Go.Proofs.YtgekadfkokkapaaDoor
open Go.RowKit
theorem Own.base' {w : World} {n0 n : Nat} {A : Option Addr} {c : Nat} {l : List Rg} (h : Own w n A c l) (hn : n0 ≤ n) : Own w n0 A c l :=
  ⟨own_base h.1 (fun g hg => Nat.le_trans hn (h.1.lt g hg).1), h.2⟩
def zT : Tl := ⟨[], 0, ⟨#[]⟩, 0, false⟩
/-- What stays. -/
def powT (t : Tl) : Tl := if t.ap = true ∧ goodB t = true then t else zT
theorem res_out (w v : World) (A : Option Addr) (c : Nat) (t : Tl) (ho : Own v w.heap.size A c t.rs) (hr : Blk v (w.heap.size + 1) 27 tlZ) (hb : Below w.heap.size w v) : ∀ V, V = (((((v.setCell ⟨w.heap.size + 1, 0, none⟩ (.slice A t.rs.length c)).setCell ⟨w.heap.size + 1, 1, none⟩ (.int .i64 t.ty)).setCell ⟨w.heap.size + 1, 2, none⟩ (.string t.ho)).setCell ⟨w.heap.size + 1, 3, none⟩ (.int .u32 t.ge)).setCell ⟨w.heap.size + 1, 4, none⟩ (.bool t.ap)) →
    Blk V (w.heap.size + 1) 27 (tlC A c t) ∧ Own V w.heap.size A c t.rs ∧ Below w.heap.size w V := by
  rintro V rfl
  have hO : Only (fun k => k = w.heap.size + 1) v _ := ((((((Only.refl (fun k => k = w.heap.size + 1) v).setCell (p := ⟨w.heap.size + 1, 0, none⟩) (.inl rfl) (.slice A t.rs.length c)).setCell (p := ⟨w.heap.size + 1, 1, none⟩) (.inl rfl) (.int .i64 t.ty)).setCell (p := ⟨w.heap.size + 1, 2, none⟩) (.inl rfl) (.string t.ho)).setCell (p := ⟨w.heap.size + 1, 3, none⟩) (.inl rfl) (.int .u32 t.ge)).setCell (p := ⟨w.heap.size + 1, 4, none⟩) (.inl rfl) (.bool t.ap))
  have hap : (Value.slice A t.rs.length c).ownBlock ≠ some (w.heap.size + 1) := own_apart ho.1 hr (by decide)
  exact ⟨(((((hr.put 0 _).put 1 _).put 2 _).put 3 _).put 4 _), ⟨own_keep ho.1 fun g hg => hO.block g (ho.1.lt g hg).2 (fun e => hap (hg.trans (congrArg some e))), ho.2⟩, hb.trans (hO.toBelow hb.size (fun k hk => by omega))⟩
set_option maxRecDepth 100000 in
set_option maxHeartbeats 2000000 in
theorem power_off (A : Option Addr) (c : Nat) (rs : List Rg) (ty : Int) (ho : ByteArray) (ge : Int) (w : World) (hl : Rgs w A rs) (hm : rs.length ≤ 200) (hx : ∀ x ∈ rs, x.h.size ≤ 1000) (hh : ho.size ≤ 1000) :
    Calls Tryd.prog 19 #[tlV A c (⟨rs, ty, ho, ge, false⟩ : Tl)] w fun e w' => ∃ A' c', e = .returned (tlV A' c' (powT (⟨rs, ty, ho, ge, false⟩ : Tl))) ∧ Own w' w.heap.size A' c' (powT (⟨rs, ty, ho, ge, false⟩ : Tl)).rs ∧ Below w.heap.size w w' := by
  obtain ⟨h1, h2, h3, h4⟩ := copy_box w A c (⟨rs, ty, ho, ge, false⟩ : Tl) tlZ _ rfl
  have HT := Lib.hid h1; have HZ := Lib.hid h2; have HB := Lib.hid h3; have HS := Lib.hid h4
  have HL := Lib.hid (hl.below h3)
  have HM := Lib.hid hm; have HX := Lib.hid hx; have HH := Lib.hid hh
  have hnt := not_true
  have hnf := not_false
  clear h1 h2 h3 h4 hl hm hx hh
  have HP := Lib.hid (show powT (⟨rs, ty, ho, ge, false⟩ : Tl) = zT by unfold powT; rw [if_neg (by simp)])
  go_enter Tryd.func19, Tryd.ntmps19
  go_upto_region 1 with (fail)
  change Code.wp _ _ _ _ ((w.alloc (.cells (tlC A c (⟨rs, ty, ho, ge, false⟩ : Tl)) 27)).alloc (.cells tlZ 27))
  generalize (w.alloc (.cells (tlC A c (⟨rs, ty, ho, ge, false⟩ : Tl)) 27)).alloc (.cells tlZ 27) = w0 at *
  have c0 : w0.cell? ⟨w.heap.size, 0, none⟩ = some (.slice A rs.length c) := HT.out.cell 0
  have c1 : w0.cell? ⟨w.heap.size, 1, none⟩ = some (.int .i64 ty) := HT.out.cell 1
  have c2 : w0.cell? ⟨w.heap.size, 2, none⟩ = some (.string ho) := HT.out.cell 2
  have c3 : w0.cell? ⟨w.heap.size, 3, none⟩ = some (.int .u32 ge) := HT.out.cell 3
  have c4 : w0.cell? ⟨w.heap.size, 4, none⟩ = some (.bool false) := HT.out.cell 4
  have d0 : w0.cell? ⟨w.heap.size + 1, 0, none⟩ = some (.slice none 0 0) := HZ.out.cell 0
  have g0 : w0.frozen? ⟨w.heap.size + 1, 0, none⟩ = false := HZ.out.free 0
  have d1 : w0.cell? ⟨w.heap.size + 1, 1, none⟩ = some (.int .i64 0) := HZ.out.cell 1
  have g1 : w0.frozen? ⟨w.heap.size + 1, 1, none⟩ = false := HZ.out.free 1
  have d2 : w0.cell? ⟨w.heap.size + 1, 2, none⟩ = some (.string ⟨#[]⟩) := HZ.out.cell 2
  have g2 : w0.frozen? ⟨w.heap.size + 1, 2, none⟩ = false := HZ.out.free 2
  have d3 : w0.cell? ⟨w.heap.size + 1, 3, none⟩ = some (.int .u32 0) := HZ.out.cell 3
  have g3 : w0.frozen? ⟨w.heap.size + 1, 3, none⟩ = false := HZ.out.free 3
  have d4 : w0.cell? ⟨w.heap.size + 1, 4, none⟩ = some (.bool false) := HZ.out.cell 4
  have g4 : w0.frozen? ⟨w.heap.size + 1, 4, none⟩ = false := HZ.out.free 4
  go_wp2_with (fail)
  obtain ⟨hK, hO, hB⟩ := res_out w w0 none 0 zT (Own.nil w0 _) HZ.out HB.out _ rfl
  refine bodyPost_ret_by (results_cell_row rfl _ _ (w.heap.size + 1) 27 (tlC none 0 zT) (0, 0) _ rfl hK Tryd.underlying27 rfl size27) rfl ?_
  exact ⟨none, 0, by rw [HP.out], by rw [HP.out]; exact hO, hB⟩
set_option maxRecDepth 100000 in
set_option maxHeartbeats 2000000 in
theorem power_bad (A : Option Addr) (c : Nat) (rs : List Rg) (ty : Int) (ho : ByteArray) (ge : Int) (w : World) (hl : Rgs w A rs) (hm : rs.length ≤ 200) (hx : ∀ x ∈ rs, x.h.size ≤ 1000) (hh : ho.size ≤ 1000) (hg : goodB (⟨rs, ty, ho, ge, true⟩ : Tl) = false) :
    Calls Tryd.prog 19 #[tlV A c (⟨rs, ty, ho, ge, true⟩ : Tl)] w fun e w' => ∃ A' c', e = .returned (tlV A' c' (powT (⟨rs, ty, ho, ge, true⟩ : Tl))) ∧ Own w' w.heap.size A' c' (powT (⟨rs, ty, ho, ge, true⟩ : Tl)).rs ∧ Below w.heap.size w w' := by
  obtain ⟨h1, h2, h3, h4⟩ := copy_box w A c (⟨rs, ty, ho, ge, true⟩ : Tl) tlZ _ rfl
  have HT := Lib.hid h1; have HZ := Lib.hid h2; have HB := Lib.hid h3; have HS := Lib.hid h4
  have HL := Lib.hid (hl.below h3)
  have HM := Lib.hid hm; have HX := Lib.hid hx; have HH := Lib.hid hh
  have hnt := not_true
  have hnf := not_false
  clear h1 h2 h3 h4 hl hm hx hh
  have HP := Lib.hid (show powT (⟨rs, ty, ho, ge, true⟩ : Tl) = zT by unfold powT; rw [if_neg (by rw [hg]; simp)])
  have HG := Lib.hid (fun v (hl2 : Rgs v A rs) => good_any A c (⟨rs, ty, ho, ge, true⟩ : Tl) v hl2 (by have := HM.out; unfold maxLen; exact Nat.le_trans this (by decide)))
  rw [hg] at HG
  clear hg
  go_enter Tryd.func19, Tryd.ntmps19
  go_upto_region 1 with (fail)
  change Code.wp _ _ _ _ ((w.alloc (.cells (tlC A c (⟨rs, ty, ho, ge, true⟩ : Tl)) 27)).alloc (.cells tlZ 27))
  generalize (w.alloc (.cells (tlC A c (⟨rs, ty, ho, ge, true⟩ : Tl)) 27)).alloc (.cells tlZ 27) = w0 at *
  have c0 : w0.cell? ⟨w.heap.size, 0, none⟩ = some (.slice A rs.length c) := HT.out.cell 0
  have c1 : w0.cell? ⟨w.heap.size, 1, none⟩ = some (.int .i64 ty) := HT.out.cell 1
  have c2 : w0.cell? ⟨w.heap.size, 2, none⟩ = some (.string ho) := HT.out.cell 2
  have c3 : w0.cell? ⟨w.heap.size, 3, none⟩ = some (.int .u32 ge) := HT.out.cell 3
  have c4 : w0.cell? ⟨w.heap.size, 4, none⟩ = some (.bool true) := HT.out.cell 4
  go_wp2_with (fail)
  refine (HG.out _ HL.out).mono ?_; rintro e w1 ⟨rfl, hb1⟩
  have HZ1 := Lib.hid (HZ.out.below hb1 HZ.out.lt); have HB1 := Lib.hid (HB.out.trans (hb1.mono HB.out.size)); have HT1 := Lib.hid (HT.out.below hb1 HT.out.lt); have HL1 := Lib.hid (HL.out.below hb1)
  clear hb1 c0 c1 c2 c3 c4
  have d0 : w1.cell? ⟨w.heap.size + 1, 0, none⟩ = some (.slice none 0 0) := HZ1.out.cell 0
  have g0 : w1.frozen? ⟨w.heap.size + 1, 0, none⟩ = false := HZ1.out.free 0
  have d1 : w1.cell? ⟨w.heap.size + 1, 1, none⟩ = some (.int .i64 0) := HZ1.out.cell 1
  have g1 : w1.frozen? ⟨w.heap.size + 1, 1, none⟩ = false := HZ1.out.free 1
  have d2 : w1.cell? ⟨w.heap.size + 1, 2, none⟩ = some (.string ⟨#[]⟩) := HZ1.out.cell 2
  have g2 : w1.frozen? ⟨w.heap.size + 1, 2, none⟩ = false := HZ1.out.free 2
  have d3 : w1.cell? ⟨w.heap.size + 1, 3, none⟩ = some (.int .u32 0) := HZ1.out.cell 3
  have g3 : w1.frozen? ⟨w.heap.size + 1, 3, none⟩ = false := HZ1.out.free 3
  have d4 : w1.cell? ⟨w.heap.size + 1, 4, none⟩ = some (.bool false) := HZ1.out.cell 4
  have g4 : w1.frozen? ⟨w.heap.size + 1, 4, none⟩ = false := HZ1.out.free 4
  go_wp2_with (fail)
  obtain ⟨hK, hO, hB⟩ := res_out w w1 none 0 zT (Own.nil w1 _) HZ1.out HB1.out _ rfl
  refine bodyPost_ret_by (results_cell_row rfl _ _ (w.heap.size + 1) 27 (tlC none 0 zT) (0, 0) _ rfl hK Tryd.underlying27 rfl size27) rfl ?_
  exact ⟨none, 0, by rw [HP.out], by rw [HP.out]; exact hO, hB⟩
set_option maxRecDepth 100000 in
set_option maxHeartbeats 2000000 in
theorem power_on (A : Option Addr) (c : Nat) (rs : List Rg) (ty : Int) (ho : ByteArray) (ge : Int) (w : World) (hl : Rgs w A rs) (hm : rs.length ≤ 200) (hx : ∀ x ∈ rs, x.h.size ≤ 1000) (hh : ho.size ≤ 1000) (hg : goodB (⟨rs, ty, ho, ge, true⟩ : Tl) = true) :
    Calls Tryd.prog 19 #[tlV A c (⟨rs, ty, ho, ge, true⟩ : Tl)] w fun e w' => ∃ A' c', e = .returned (tlV A' c' (powT (⟨rs, ty, ho, ge, true⟩ : Tl))) ∧ Own w' w.heap.size A' c' (powT (⟨rs, ty, ho, ge, true⟩ : Tl)).rs ∧ Below w.heap.size w w' := by
  obtain ⟨h1, h2, h3, h4⟩ := copy_box w A c (⟨rs, ty, ho, ge, true⟩ : Tl) tlZ _ rfl
  have HT := Lib.hid h1; have HZ := Lib.hid h2; have HB := Lib.hid h3; have HS := Lib.hid h4
  have HL := Lib.hid (hl.below h3)
  have HM := Lib.hid hm; have HX := Lib.hid hx; have HH := Lib.hid hh
  have hnt := not_true
  have hnf := not_false
  clear h1 h2 h3 h4 hl hm hx hh
  have HP := Lib.hid (show powT (⟨rs, ty, ho, ge, true⟩ : Tl) = (⟨rs, ty, ho, ge, true⟩ : Tl) by unfold powT; rw [if_pos ⟨rfl, hg⟩])
  have HG := Lib.hid (fun v (hl2 : Rgs v A rs) => good_any A c (⟨rs, ty, ho, ge, true⟩ : Tl) v hl2 (by have := HM.out; unfold maxLen; exact Nat.le_trans this (by decide)))
  rw [hg] at HG
  clear hg
  go_enter Tryd.func19, Tryd.ntmps19
  go_upto_region 1 with (fail)
  change Code.wp _ _ _ _ ((w.alloc (.cells (tlC A c (⟨rs, ty, ho, ge, true⟩ : Tl)) 27)).alloc (.cells tlZ 27))
  generalize (w.alloc (.cells (tlC A c (⟨rs, ty, ho, ge, true⟩ : Tl)) 27)).alloc (.cells tlZ 27) = w0 at *
  have c0 : w0.cell? ⟨w.heap.size, 0, none⟩ = some (.slice A rs.length c) := HT.out.cell 0
  have c1 : w0.cell? ⟨w.heap.size, 1, none⟩ = some (.int .i64 ty) := HT.out.cell 1
  have c2 : w0.cell? ⟨w.heap.size, 2, none⟩ = some (.string ho) := HT.out.cell 2
  have c3 : w0.cell? ⟨w.heap.size, 3, none⟩ = some (.int .u32 ge) := HT.out.cell 3
  have c4 : w0.cell? ⟨w.heap.size, 4, none⟩ = some (.bool true) := HT.out.cell 4
  go_wp2_with (fail)
  refine (HG.out _ HL.out).mono ?_; rintro e w1 ⟨rfl, hb1⟩
  have HZ1 := Lib.hid (HZ.out.below hb1 HZ.out.lt); have HB1 := Lib.hid (HB.out.trans (hb1.mono HB.out.size)); have HT1 := Lib.hid (HT.out.below hb1 HT.out.lt); have HL1 := Lib.hid (HL.out.below hb1)
  clear hb1 c0 c1 c2 c3 c4
  have c0 : w1.cell? ⟨w.heap.size, 0, none⟩ = some (.slice A rs.length c) := HT1.out.cell 0
  have c1 : w1.cell? ⟨w.heap.size, 1, none⟩ = some (.int .i64 ty) := HT1.out.cell 1
  have c2 : w1.cell? ⟨w.heap.size, 2, none⟩ = some (.string ho) := HT1.out.cell 2
  have c3 : w1.cell? ⟨w.heap.size, 3, none⟩ = some (.int .u32 ge) := HT1.out.cell 3
  have c4 : w1.cell? ⟨w.heap.size, 4, none⟩ = some (.bool true) := HT1.out.cell 4
  go_wp2_with (fail)
  refine (copyOf_any A c (⟨rs, ty, ho, ge, true⟩ : Tl) w1 HL1.out (Nat.le_trans HM.out (by decide)) HX.out HH.out).mono ?_; rintro e w2 ⟨A5, c5, rfl, ho2, hb2⟩
  have HZ2 := Lib.hid (HZ1.out.below hb2 HZ1.out.lt); have HB2 := Lib.hid (HB1.out.trans (hb2.mono HB1.out.size)); have HO2 := Lib.hid (Own.base' ho2 HB1.out.size)
  clear hb2 ho2 c0 c1 c2 c3 c4
  have d0 : w2.cell? ⟨w.heap.size + 1, 0, none⟩ = some (.slice none 0 0) := HZ2.out.cell 0
  have g0 : w2.frozen? ⟨w.heap.size + 1, 0, none⟩ = false := HZ2.out.free 0
  have d1 : w2.cell? ⟨w.heap.size + 1, 1, none⟩ = some (.int .i64 0) := HZ2.out.cell 1
  have g1 : w2.frozen? ⟨w.heap.size + 1, 1, none⟩ = false := HZ2.out.free 1
  have d2 : w2.cell? ⟨w.heap.size + 1, 2, none⟩ = some (.string ⟨#[]⟩) := HZ2.out.cell 2
  have g2 : w2.frozen? ⟨w.heap.size + 1, 2, none⟩ = false := HZ2.out.free 2
  have d3 : w2.cell? ⟨w.heap.size + 1, 3, none⟩ = some (.int .u32 0) := HZ2.out.cell 3
  have g3 : w2.frozen? ⟨w.heap.size + 1, 3, none⟩ = false := HZ2.out.free 3
  have d4 : w2.cell? ⟨w.heap.size + 1, 4, none⟩ = some (.bool false) := HZ2.out.cell 4
  have g4 : w2.frozen? ⟨w.heap.size + 1, 4, none⟩ = false := HZ2.out.free 4
  go_wp2_with (fail)
  obtain ⟨hK, hO, hB⟩ := res_out w w2 A5 c5 (⟨rs, ty, ho, ge, true⟩ : Tl) HO2.out HZ2.out HB2.out _ rfl
  refine bodyPost_ret_by (results_cell_row rfl _ _ (w.heap.size + 1) 27 (tlC A5 c5 (⟨rs, ty, ho, ge, true⟩ : Tl)) (0, 0) _ rfl hK Tryd.underlying27 rfl size27) rfl ?_
  exact ⟨A5, c5, by rw [HP.out], by rw [HP.out]; exact hO, hB⟩
theorem power_any (A : Option Addr) (c : Nat) (t : Tl) (w : World) (hl : Rgs w A t.rs) (hm : t.rs.length ≤ 200) (hx : ∀ x ∈ t.rs, x.h.size ≤ 1000) (hh : t.ho.size ≤ 1000) :
    Calls Tryd.prog 19 #[tlV A c t] w fun e w' => ∃ A' c', e = .returned (tlV A' c' (powT t)) ∧ Own w' w.heap.size A' c' (powT t).rs ∧ Below w.heap.size w w' := by
  obtain ⟨rs, ty, ho, ge, ap⟩ := t
  cases ap with
  | false => exact power_off A c rs ty ho ge w hl hm hx hh
  | true =>
    cases hg : goodB ⟨rs, ty, ho, ge, true⟩ with
    | false => exact power_bad A c rs ty ho ge w hl hm hx hh hg
    | true => exact power_on A c rs ty ho ge w hl hm hx hh hg
set_option maxRecDepth 100000 in
set_option maxHeartbeats 2000000 in
theorem refPower_bad_true (A : Option Addr) (c : Nat) (rs : List Rg) (ty : Int) (ho : ByteArray) (ge : Int) (w : World) (hl : Rgs w A rs) (hm : rs.length ≤ 200) (hx : ∀ x ∈ rs, x.h.size ≤ 1000) (hh : ho.size ≤ 1000) (hg : goodB (⟨rs, ty, ho, ge, true⟩ : Tl) = false) :
    Calls Tryd.prog 20 #[tlV A c (⟨rs, ty, ho, ge, true⟩ : Tl)] w fun e w' => ∃ A' c', e = .returned (tlV A' c' (powT (⟨rs, ty, ho, ge, true⟩ : Tl))) ∧ Own w' w.heap.size A' c' (powT (⟨rs, ty, ho, ge, true⟩ : Tl)).rs ∧ Below w.heap.size w w' := by
  obtain ⟨h1, h2, h3, h4⟩ := copy_box w A c (⟨rs, ty, ho, ge, true⟩ : Tl) tlZ _ rfl
  have HT := Lib.hid h1; have HZ := Lib.hid h2; have HB := Lib.hid h3; have HS := Lib.hid h4
  have HL := Lib.hid (hl.below h3)
  have HM := Lib.hid hm; have HX := Lib.hid hx; have HH := Lib.hid hh
  have hnt := not_true
  have hnf := not_false
  clear h1 h2 h3 h4 hl hm hx hh
  have HP := Lib.hid (show powT (⟨rs, ty, ho, ge, true⟩ : Tl) = zT by unfold powT; rw [if_neg (by rw [hg]; simp)])
  have HG := Lib.hid (fun v (hl2 : Rgs v A rs) => refGood_any A c (⟨rs, ty, ho, ge, true⟩ : Tl) v hl2 (by have := HM.out; unfold maxLen; exact Nat.le_trans this (by decide)))
  rw [hg] at HG
  clear hg
  go_enter Tryd.func20, Tryd.ntmps20
  go_upto_region 1 with (fail)
  change Code.wp _ _ _ _ ((w.alloc (.cells (tlC A c (⟨rs, ty, ho, ge, true⟩ : Tl)) 27)).alloc (.cells tlZ 27))
  generalize (w.alloc (.cells (tlC A c (⟨rs, ty, ho, ge, true⟩ : Tl)) 27)).alloc (.cells tlZ 27) = w0 at *
  have c0 : w0.cell? ⟨w.heap.size, 0, none⟩ = some (.slice A rs.length c) := HT.out.cell 0
  have c1 : w0.cell? ⟨w.heap.size, 1, none⟩ = some (.int .i64 ty) := HT.out.cell 1
  have c2 : w0.cell? ⟨w.heap.size, 2, none⟩ = some (.string ho) := HT.out.cell 2
  have c3 : w0.cell? ⟨w.heap.size, 3, none⟩ = some (.int .u32 ge) := HT.out.cell 3
  have c4 : w0.cell? ⟨w.heap.size, 4, none⟩ = some (.bool true) := HT.out.cell 4
  go_wp2_with (fail)
  refine (HG.out _ HL.out).mono ?_; rintro e w1 ⟨rfl, hb1⟩
  have HZ1 := Lib.hid (HZ.out.below hb1 HZ.out.lt); have HB1 := Lib.hid (HB.out.trans (hb1.mono HB.out.size)); have HT1 := Lib.hid (HT.out.below hb1 HT.out.lt); have HL1 := Lib.hid (HL.out.below hb1)
  clear hb1 c0 c1 c2 c3 c4
  have d0 : w1.cell? ⟨w.heap.size + 1, 0, none⟩ = some (.slice none 0 0) := HZ1.out.cell 0
  have g0 : w1.frozen? ⟨w.heap.size + 1, 0, none⟩ = false := HZ1.out.free 0
  have d1 : w1.cell? ⟨w.heap.size + 1, 1, none⟩ = some (.int .i64 0) := HZ1.out.cell 1
  have g1 : w1.frozen? ⟨w.heap.size + 1, 1, none⟩ = false := HZ1.out.free 1
  have d2 : w1.cell? ⟨w.heap.size + 1, 2, none⟩ = some (.string ⟨#[]⟩) := HZ1.out.cell 2
  have g2 : w1.frozen? ⟨w.heap.size + 1, 2, none⟩ = false := HZ1.out.free 2
  have d3 : w1.cell? ⟨w.heap.size + 1, 3, none⟩ = some (.int .u32 0) := HZ1.out.cell 3
  have g3 : w1.frozen? ⟨w.heap.size + 1, 3, none⟩ = false := HZ1.out.free 3
  have d4 : w1.cell? ⟨w.heap.size + 1, 4, none⟩ = some (.bool false) := HZ1.out.cell 4
  have g4 : w1.frozen? ⟨w.heap.size + 1, 4, none⟩ = false := HZ1.out.free 4
  go_wp2_with (fail)
  obtain ⟨hK, hO, hB⟩ := res_out w w1 none 0 zT (Own.nil w1 _) HZ1.out HB1.out _ rfl
  refine bodyPost_ret_by (results_cell_row rfl _ _ (w.heap.size + 1) 27 (tlC none 0 zT) (0, 0) _ rfl hK Tryd.underlying27 rfl size27) rfl ?_
  exact ⟨none, 0, by rw [HP.out], by rw [HP.out]; exact hO, hB⟩
set_option maxRecDepth 100000 in
set_option maxHeartbeats 2000000 in
theorem refPower_bad_false (A : Option Addr) (c : Nat) (rs : List Rg) (ty : Int) (ho : ByteArray) (ge : Int) (w : World) (hl : Rgs w A rs) (hm : rs.length ≤ 200) (hx : ∀ x ∈ rs, x.h.size ≤ 1000) (hh : ho.size ≤ 1000) (hg : goodB (⟨rs, ty, ho, ge, false⟩ : Tl) = false) :
    Calls Tryd.prog 20 #[tlV A c (⟨rs, ty, ho, ge, false⟩ : Tl)] w fun e w' => ∃ A' c', e = .returned (tlV A' c' (powT (⟨rs, ty, ho, ge, false⟩ : Tl))) ∧ Own w' w.heap.size A' c' (powT (⟨rs, ty, ho, ge, false⟩ : Tl)).rs ∧ Below w.heap.size w w' := by
  obtain ⟨h1, h2, h3, h4⟩ := copy_box w A c (⟨rs, ty, ho, ge, false⟩ : Tl) tlZ _ rfl
  have HT := Lib.hid h1; have HZ := Lib.hid h2; have HB := Lib.hid h3; have HS := Lib.hid h4
  have HL := Lib.hid (hl.below h3)
  have HM := Lib.hid hm; have HX := Lib.hid hx; have HH := Lib.hid hh
  have hnt := not_true
  have hnf := not_false
  clear h1 h2 h3 h4 hl hm hx hh
  have HP := Lib.hid (show powT (⟨rs, ty, ho, ge, false⟩ : Tl) = zT by unfold powT; rw [if_neg (by rw [hg]; simp)])
  have HG := Lib.hid (fun v (hl2 : Rgs v A rs) => refGood_any A c (⟨rs, ty, ho, ge, false⟩ : Tl) v hl2 (by have := HM.out; unfold maxLen; exact Nat.le_trans this (by decide)))
  rw [hg] at HG
  clear hg
  go_enter Tryd.func20, Tryd.ntmps20
  go_upto_region 1 with (fail)
  change Code.wp _ _ _ _ ((w.alloc (.cells (tlC A c (⟨rs, ty, ho, ge, false⟩ : Tl)) 27)).alloc (.cells tlZ 27))
  generalize (w.alloc (.cells (tlC A c (⟨rs, ty, ho, ge, false⟩ : Tl)) 27)).alloc (.cells tlZ 27) = w0 at *
  have c0 : w0.cell? ⟨w.heap.size, 0, none⟩ = some (.slice A rs.length c) := HT.out.cell 0
  have c1 : w0.cell? ⟨w.heap.size, 1, none⟩ = some (.int .i64 ty) := HT.out.cell 1
  have c2 : w0.cell? ⟨w.heap.size, 2, none⟩ = some (.string ho) := HT.out.cell 2
  have c3 : w0.cell? ⟨w.heap.size, 3, none⟩ = some (.int .u32 ge) := HT.out.cell 3
  have c4 : w0.cell? ⟨w.heap.size, 4, none⟩ = some (.bool false) := HT.out.cell 4
  go_wp2_with (fail)
  refine (HG.out _ HL.out).mono ?_; rintro e w1 ⟨rfl, hb1⟩
  have HZ1 := Lib.hid (HZ.out.below hb1 HZ.out.lt); have HB1 := Lib.hid (HB.out.trans (hb1.mono HB.out.size)); have HT1 := Lib.hid (HT.out.below hb1 HT.out.lt); have HL1 := Lib.hid (HL.out.below hb1)
  clear hb1 c0 c1 c2 c3 c4
  have d0 : w1.cell? ⟨w.heap.size + 1, 0, none⟩ = some (.slice none 0 0) := HZ1.out.cell 0
  have g0 : w1.frozen? ⟨w.heap.size + 1, 0, none⟩ = false := HZ1.out.free 0
  have d1 : w1.cell? ⟨w.heap.size + 1, 1, none⟩ = some (.int .i64 0) := HZ1.out.cell 1
  have g1 : w1.frozen? ⟨w.heap.size + 1, 1, none⟩ = false := HZ1.out.free 1
  have d2 : w1.cell? ⟨w.heap.size + 1, 2, none⟩ = some (.string ⟨#[]⟩) := HZ1.out.cell 2
  have g2 : w1.frozen? ⟨w.heap.size + 1, 2, none⟩ = false := HZ1.out.free 2
  have d3 : w1.cell? ⟨w.heap.size + 1, 3, none⟩ = some (.int .u32 0) := HZ1.out.cell 3
  have g3 : w1.frozen? ⟨w.heap.size + 1, 3, none⟩ = false := HZ1.out.free 3
  have d4 : w1.cell? ⟨w.heap.size + 1, 4, none⟩ = some (.bool false) := HZ1.out.cell 4
  have g4 : w1.frozen? ⟨w.heap.size + 1, 4, none⟩ = false := HZ1.out.free 4
  go_wp2_with (fail)
  obtain ⟨hK, hO, hB⟩ := res_out w w1 none 0 zT (Own.nil w1 _) HZ1.out HB1.out _ rfl
  refine bodyPost_ret_by (results_cell_row rfl _ _ (w.heap.size + 1) 27 (tlC none 0 zT) (0, 0) _ rfl hK Tryd.underlying27 rfl size27) rfl ?_
  exact ⟨none, 0, by rw [HP.out], by rw [HP.out]; exact hO, hB⟩
set_option maxRecDepth 100000 in
set_option maxHeartbeats 2000000 in
theorem refPower_off (A : Option Addr) (c : Nat) (rs : List Rg) (ty : Int) (ho : ByteArray) (ge : Int) (w : World) (hl : Rgs w A rs) (hm : rs.length ≤ 200) (hx : ∀ x ∈ rs, x.h.size ≤ 1000) (hh : ho.size ≤ 1000) (hg : goodB (⟨rs, ty, ho, ge, false⟩ : Tl) = true) :
    Calls Tryd.prog 20 #[tlV A c (⟨rs, ty, ho, ge, false⟩ : Tl)] w fun e w' => ∃ A' c', e = .returned (tlV A' c' (powT (⟨rs, ty, ho, ge, false⟩ : Tl))) ∧ Own w' w.heap.size A' c' (powT (⟨rs, ty, ho, ge, false⟩ : Tl)).rs ∧ Below w.heap.size w w' := by
  obtain ⟨h1, h2, h3, h4⟩ := copy_box w A c (⟨rs, ty, ho, ge, false⟩ : Tl) tlZ _ rfl
  have HT := Lib.hid h1; have HZ := Lib.hid h2; have HB := Lib.hid h3; have HS := Lib.hid h4
  have HL := Lib.hid (hl.below h3)
  have HM := Lib.hid hm; have HX := Lib.hid hx; have HH := Lib.hid hh
  have hnt := not_true
  have hnf := not_false
  clear h1 h2 h3 h4 hl hm hx hh
  have HP := Lib.hid (show powT (⟨rs, ty, ho, ge, false⟩ : Tl) = zT by unfold powT; rw [if_neg (by simp)])
  have HG := Lib.hid (fun v (hl2 : Rgs v A rs) => refGood_any A c (⟨rs, ty, ho, ge, false⟩ : Tl) v hl2 (by have := HM.out; unfold maxLen; exact Nat.le_trans this (by decide)))
  rw [hg] at HG
  clear hg
  go_enter Tryd.func20, Tryd.ntmps20
  go_upto_region 1 with (fail)
  change Code.wp _ _ _ _ ((w.alloc (.cells (tlC A c (⟨rs, ty, ho, ge, false⟩ : Tl)) 27)).alloc (.cells tlZ 27))
  generalize (w.alloc (.cells (tlC A c (⟨rs, ty, ho, ge, false⟩ : Tl)) 27)).alloc (.cells tlZ 27) = w0 at *
  have c0 : w0.cell? ⟨w.heap.size, 0, none⟩ = some (.slice A rs.length c) := HT.out.cell 0
  have c1 : w0.cell? ⟨w.heap.size, 1, none⟩ = some (.int .i64 ty) := HT.out.cell 1
  have c2 : w0.cell? ⟨w.heap.size, 2, none⟩ = some (.string ho) := HT.out.cell 2
  have c3 : w0.cell? ⟨w.heap.size, 3, none⟩ = some (.int .u32 ge) := HT.out.cell 3
  have c4 : w0.cell? ⟨w.heap.size, 4, none⟩ = some (.bool false) := HT.out.cell 4
  go_wp2_with (fail)
  refine (HG.out _ HL.out).mono ?_; rintro e w1 ⟨rfl, hb1⟩
  have HZ1 := Lib.hid (HZ.out.below hb1 HZ.out.lt); have HB1 := Lib.hid (HB.out.trans (hb1.mono HB.out.size)); have HT1 := Lib.hid (HT.out.below hb1 HT.out.lt); have HL1 := Lib.hid (HL.out.below hb1)
  clear hb1 c0 c1 c2 c3 c4
  have c0 : w1.cell? ⟨w.heap.size, 0, none⟩ = some (.slice A rs.length c) := HT1.out.cell 0
  have c1 : w1.cell? ⟨w.heap.size, 1, none⟩ = some (.int .i64 ty) := HT1.out.cell 1
  have c2 : w1.cell? ⟨w.heap.size, 2, none⟩ = some (.string ho) := HT1.out.cell 2
  have c3 : w1.cell? ⟨w.heap.size, 3, none⟩ = some (.int .u32 ge) := HT1.out.cell 3
  have c4 : w1.cell? ⟨w.heap.size, 4, none⟩ = some (.bool false) := HT1.out.cell 4
  have d0 : w1.cell? ⟨w.heap.size + 1, 0, none⟩ = some (.slice none 0 0) := HZ1.out.cell 0
  have g0 : w1.frozen? ⟨w.heap.size + 1, 0, none⟩ = false := HZ1.out.free 0
  have d1 : w1.cell? ⟨w.heap.size + 1, 1, none⟩ = some (.int .i64 0) := HZ1.out.cell 1
  have g1 : w1.frozen? ⟨w.heap.size + 1, 1, none⟩ = false := HZ1.out.free 1
  have d2 : w1.cell? ⟨w.heap.size + 1, 2, none⟩ = some (.string ⟨#[]⟩) := HZ1.out.cell 2
  have g2 : w1.frozen? ⟨w.heap.size + 1, 2, none⟩ = false := HZ1.out.free 2
  have d3 : w1.cell? ⟨w.heap.size + 1, 3, none⟩ = some (.int .u32 0) := HZ1.out.cell 3
  have g3 : w1.frozen? ⟨w.heap.size + 1, 3, none⟩ = false := HZ1.out.free 3
  have d4 : w1.cell? ⟨w.heap.size + 1, 4, none⟩ = some (.bool false) := HZ1.out.cell 4
  have g4 : w1.frozen? ⟨w.heap.size + 1, 4, none⟩ = false := HZ1.out.free 4
  go_wp2_with (fail)
  obtain ⟨hK, hO, hB⟩ := res_out w w1 none 0 zT (Own.nil w1 _) HZ1.out HB1.out _ rfl
  refine bodyPost_ret_by (results_cell_row rfl _ _ (w.heap.size + 1) 27 (tlC none 0 zT) (0, 0) _ rfl hK Tryd.underlying27 rfl size27) rfl ?_
  exact ⟨none, 0, by rw [HP.out], by rw [HP.out]; exact hO, hB⟩
set_option maxRecDepth 100000 in
set_option maxHeartbeats 2000000 in
theorem refPower_on (A : Option Addr) (c : Nat) (rs : List Rg) (ty : Int) (ho : ByteArray) (ge : Int) (w : World) (hl : Rgs w A rs) (hm : rs.length ≤ 200) (hx : ∀ x ∈ rs, x.h.size ≤ 1000) (hh : ho.size ≤ 1000) (hg : goodB (⟨rs, ty, ho, ge, true⟩ : Tl) = true) :
    Calls Tryd.prog 20 #[tlV A c (⟨rs, ty, ho, ge, true⟩ : Tl)] w fun e w' => ∃ A' c', e = .returned (tlV A' c' (powT (⟨rs, ty, ho, ge, true⟩ : Tl))) ∧ Own w' w.heap.size A' c' (powT (⟨rs, ty, ho, ge, true⟩ : Tl)).rs ∧ Below w.heap.size w w' := by
  obtain ⟨h1, h2, h3, h4⟩ := copy_box w A c (⟨rs, ty, ho, ge, true⟩ : Tl) tlZ _ rfl
  have HT := Lib.hid h1; have HZ := Lib.hid h2; have HB := Lib.hid h3; have HS := Lib.hid h4
  have HL := Lib.hid (hl.below h3)
  have HM := Lib.hid hm; have HX := Lib.hid hx; have HH := Lib.hid hh
  have hnt := not_true
  have hnf := not_false
  clear h1 h2 h3 h4 hl hm hx hh
  have HP := Lib.hid (show powT (⟨rs, ty, ho, ge, true⟩ : Tl) = (⟨rs, ty, ho, ge, true⟩ : Tl) by unfold powT; rw [if_pos ⟨rfl, hg⟩])
  have HG := Lib.hid (fun v (hl2 : Rgs v A rs) => refGood_any A c (⟨rs, ty, ho, ge, true⟩ : Tl) v hl2 (by have := HM.out; unfold maxLen; exact Nat.le_trans this (by decide)))
  rw [hg] at HG
  clear hg
  go_enter Tryd.func20, Tryd.ntmps20
  go_upto_region 1 with (fail)
  change Code.wp _ _ _ _ ((w.alloc (.cells (tlC A c (⟨rs, ty, ho, ge, true⟩ : Tl)) 27)).alloc (.cells tlZ 27))
  generalize (w.alloc (.cells (tlC A c (⟨rs, ty, ho, ge, true⟩ : Tl)) 27)).alloc (.cells tlZ 27) = w0 at *
  have c0 : w0.cell? ⟨w.heap.size, 0, none⟩ = some (.slice A rs.length c) := HT.out.cell 0
  have c1 : w0.cell? ⟨w.heap.size, 1, none⟩ = some (.int .i64 ty) := HT.out.cell 1
  have c2 : w0.cell? ⟨w.heap.size, 2, none⟩ = some (.string ho) := HT.out.cell 2
  have c3 : w0.cell? ⟨w.heap.size, 3, none⟩ = some (.int .u32 ge) := HT.out.cell 3
  have c4 : w0.cell? ⟨w.heap.size, 4, none⟩ = some (.bool true) := HT.out.cell 4
  go_wp2_with (fail)
  refine (HG.out _ HL.out).mono ?_; rintro e w1 ⟨rfl, hb1⟩
  have HZ1 := Lib.hid (HZ.out.below hb1 HZ.out.lt); have HB1 := Lib.hid (HB.out.trans (hb1.mono HB.out.size)); have HT1 := Lib.hid (HT.out.below hb1 HT.out.lt); have HL1 := Lib.hid (HL.out.below hb1)
  clear hb1 c0 c1 c2 c3 c4
  have c0 : w1.cell? ⟨w.heap.size, 0, none⟩ = some (.slice A rs.length c) := HT1.out.cell 0
  have c1 : w1.cell? ⟨w.heap.size, 1, none⟩ = some (.int .i64 ty) := HT1.out.cell 1
  have c2 : w1.cell? ⟨w.heap.size, 2, none⟩ = some (.string ho) := HT1.out.cell 2
  have c3 : w1.cell? ⟨w.heap.size, 3, none⟩ = some (.int .u32 ge) := HT1.out.cell 3
  have c4 : w1.cell? ⟨w.heap.size, 4, none⟩ = some (.bool true) := HT1.out.cell 4
  go_wp2_with (fail)
  refine (copy_any A c (⟨rs, ty, ho, ge, true⟩ : Tl) w1 HL1.out (Nat.le_trans HM.out (by decide))).mono ?_; rintro e w2 ⟨A5, c5, rfl, ho2, hb2⟩
  have HZ2 := Lib.hid (HZ1.out.below hb2 HZ1.out.lt); have HB2 := Lib.hid (HB1.out.trans (hb2.mono HB1.out.size)); have HO2 := Lib.hid (Own.base' ho2 HB1.out.size)
  clear hb2 ho2 c0 c1 c2 c3 c4
  have d0 : w2.cell? ⟨w.heap.size + 1, 0, none⟩ = some (.slice none 0 0) := HZ2.out.cell 0
  have g0 : w2.frozen? ⟨w.heap.size + 1, 0, none⟩ = false := HZ2.out.free 0
  have d1 : w2.cell? ⟨w.heap.size + 1, 1, none⟩ = some (.int .i64 0) := HZ2.out.cell 1
  have g1 : w2.frozen? ⟨w.heap.size + 1, 1, none⟩ = false := HZ2.out.free 1
  have d2 : w2.cell? ⟨w.heap.size + 1, 2, none⟩ = some (.string ⟨#[]⟩) := HZ2.out.cell 2
  have g2 : w2.frozen? ⟨w.heap.size + 1, 2, none⟩ = false := HZ2.out.free 2
  have d3 : w2.cell? ⟨w.heap.size + 1, 3, none⟩ = some (.int .u32 0) := HZ2.out.cell 3
  have g3 : w2.frozen? ⟨w.heap.size + 1, 3, none⟩ = false := HZ2.out.free 3
  have d4 : w2.cell? ⟨w.heap.size + 1, 4, none⟩ = some (.bool false) := HZ2.out.cell 4
  have g4 : w2.frozen? ⟨w.heap.size + 1, 4, none⟩ = false := HZ2.out.free 4
  go_wp2_with (fail)
  obtain ⟨hK, hO, hB⟩ := res_out w w2 A5 c5 (⟨rs, ty, ho, ge, true⟩ : Tl) HO2.out HZ2.out HB2.out _ rfl
  refine bodyPost_ret_by (results_cell_row rfl _ _ (w.heap.size + 1) 27 (tlC A5 c5 (⟨rs, ty, ho, ge, true⟩ : Tl)) (0, 0) _ rfl hK Tryd.underlying27 rfl size27) rfl ?_
  exact ⟨A5, c5, by rw [HP.out], by rw [HP.out]; exact hO, hB⟩
theorem refPower_any (A : Option Addr) (c : Nat) (t : Tl) (w : World) (hl : Rgs w A t.rs) (hm : t.rs.length ≤ 200) (hx : ∀ x ∈ t.rs, x.h.size ≤ 1000) (hh : t.ho.size ≤ 1000) :
    Calls Tryd.prog 20 #[tlV A c t] w fun e w' => ∃ A' c', e = .returned (tlV A' c' (powT t)) ∧ Own w' w.heap.size A' c' (powT t).rs ∧ Below w.heap.size w w' := by
  obtain ⟨rs, ty, ho, ge, ap⟩ := t
  cases ap with
  | false =>
    cases hg : goodB ⟨rs, ty, ho, ge, false⟩ with
    | false => exact refPower_bad_false A c rs ty ho ge w hl hm hx hh hg
    | true => exact refPower_off A c rs ty ho ge w hl hm hx hh hg
  | true =>
    cases hg : goodB ⟨rs, ty, ho, ge, true⟩ with
    | false => exact refPower_bad_true A c rs ty ho ge w hl hm hx hh hg
    | true => exact refPower_on A c rs ty ho ge w hl hm hx hh hg
end Go.Proofs.YtgekadfkokkapaaDoor
