/- The bytes of every sense, and the sense of any bytes: the statement. -/
import Derived.Test.YthcaeihpdlgcaaaDoorSnG
namespace Go.Proofs.YthcaeihpdlgcaaaDoor
open Go.RowKit
theorem bytV_eq (o : Option ByteArray) : ∃ b c, bytV o = .tuple #[.string b, .int .i64 c] := ⟨_, _, rfl⟩
theorem parV_eq (o : Option Sn) : ∃ y c, parV o = .tuple #[snV y, .int .i64 c] := ⟨_, _, rfl⟩
theorem codV_eq (o : Option Oc) : codV o = .tuple #[ouV (okC o).c (okC o).t (okC o).w zR, .bool o.isSome] := by cases o <;> rfl
set_option maxRecDepth 100000 in
set_option maxHeartbeats 16000000 in
theorem senseBytes_any {T : World → Prop} (P : Code16 T) (x : Sn) (hx : Bn x) (s : ByteArray) (w : World) (ht : T w) : Calls Tryd.prog 3 #[snV x, .string s] w fun e w' => e = .returned (.bool true) ∧ Below w.heap.size w w' := by
  have HT := Lib.hid ht
  clear ht
  have HW := Lib.hid (fun v (hv : T v) => sense_wakes P v hv)
  by_cases h5 : 5000 < s.size
  · have q : (5000 : Int) < (s.size : Int) := by omega
    clear h5
    go_enter Tryd.func3, Tryd.ntmps3
    go_upto_region 1 with (fail)
    change Code.wp _ _ _ _ (w.alloc (.cells (snC x) 23))
    have HB := Lib.hid ((Below.refl w.heap.size w).alloc (Nat.le_refl _) (.cells (snC x) 23))
    generalize w.alloc (.cells (snC x) 23) = v0 at *
    go_wp2_with (fail)
    refine (HW.out v0 (tt P HT HB)).mono ?_; rintro e v1 ⟨rfl, hb⟩
    replace HB := Lib.hid (HB.out.trans (hb.mono HB.out.size)); clear hb
    go_wp2_with (fail)
    go_ret
    exact ⟨rfl, HB.out⟩
  · have q : ¬ (5000 : Int) < (s.size : Int) := by omega
    obtain ⟨bs, be, hbs⟩ := bytV_eq (bytX x)
    obtain ⟨y, pe, hpe⟩ := parV_eq (parX s)
    have HB8 := Lib.hid (fun v hv => P.bytes x v hv hx)
    have HB9 := Lib.hid (fun v => refBytes_any x v)
    have HP8 := Lib.hid (fun v hv => P.parse s v hv (by omega))
    have HP9 := Lib.hid (fun v => refParse_any s v)
    rw [hbs] at HB8 HB9
    rw [hpe] at HP8 HP9
    have HSE := Lib.hid (fun v => senses_any y y v)
    rw [decide_eq_true (rfl : y = y)] at HSE
    have q1 : (bs.toList == bs.toList) = true := by simp
    have q2 : (be == be) = true := by simp
    have q3 : (pe == pe) = true := by simp
    clear hbs hpe h5 hx
    go_enter Tryd.func3, Tryd.ntmps3
    go_upto_region 1 with (fail)
    change Code.wp _ _ _ _ (w.alloc (.cells (snC x) 23))
    have HB := Lib.hid ((Below.refl w.heap.size w).alloc (Nat.le_refl _) (.cells (snC x) 23))
    have HX := Lib.hid (Blk.new w 23 (snC x))
    obtain ⟨p, hp⟩ : ∃ p, p = w.heap.size := ⟨_, rfl⟩
    have HP := Lib.hid hp
    rw [← hp] at HX ⊢
    clear hp
    generalize w.alloc (.cells (snC x) 23) = v0 at *
    go_upto_region 3 with (fail)
    refine wp_region_lit ?_
    refine wpList_load_row rfl 23 (.tmp 2) rfl p rfl 23 (snC x) (0, 0) _ HX.out Tryd.underlying23 rfl sn_info ?_
    go_wp2_with (fail)
    refine (HB8.out v0 (tt P HT HB)).mono ?_; rintro e v1 ⟨rfl, hb⟩
    replace HB := Lib.hid (HB.out.trans (hb.mono HB.out.size)); replace HX := Lib.hid (HX.out.below hb HX.out.lt); clear hb
    go_upto_region 4 with (fail)
    refine wp_region_lit ?_
    refine wpList_load_row rfl 23 (.tmp 2) rfl p rfl 23 (snC x) (0, 0) _ HX.out Tryd.underlying23 rfl sn_info ?_
    go_wp2_with (fail)
    refine (HB9.out v1).mono ?_; rintro e v2 ⟨rfl, hb⟩
    replace HB := Lib.hid (HB.out.trans (hb.mono HB.out.size)); clear hb
    clear HX
    go_wp2_with (fail)
    refine (HP8.out v2 (tt P HT HB)).mono ?_; rintro e v3 ⟨rfl, hb⟩
    replace HB := Lib.hid (HB.out.trans (hb.mono HB.out.size)); clear hb
    go_upto_region 6 with (fail)
    change Code.wp _ _ _ _ (v3.alloc (.cells (snC y) 23))
    have hb := (Below.refl v3.heap.size v3).alloc (Nat.le_refl _) (.cells (snC y) 23)
    replace HB := Lib.hid (HB.out.trans (hb.mono HB.out.size)); 
    have HY := Lib.hid (Blk.new v3 23 (snC y))
    obtain ⟨g, hg⟩ : ∃ g, g = v3.heap.size := ⟨_, rfl⟩
    rw [← hg] at HY ⊢
    clear hb hg
    generalize v3.alloc (.cells (snC y) 23) = v4 at *
    go_wp2_with (fail)
    refine (HP9.out v4).mono ?_; rintro e v5 ⟨rfl, hb⟩
    replace HB := Lib.hid (HB.out.trans (hb.mono HB.out.size)); replace HY := Lib.hid (HY.out.below hb HY.out.lt); clear hb
    go_upto_region 7 with (fail)
    change Code.wp _ _ _ _ (v5.alloc (.cells (snC y) 23))
    have hb := (Below.refl v5.heap.size v5).alloc (Nat.le_refl _) (.cells (snC y) 23)
    replace HB := Lib.hid (HB.out.trans (hb.mono HB.out.size)); replace HY := Lib.hid (HY.out.below hb HY.out.lt); 
    have HZ := Lib.hid (Blk.new v5 23 (snC y))
    obtain ⟨r, hg⟩ : ∃ g, g = v5.heap.size := ⟨_, rfl⟩
    rw [← hg] at HZ ⊢
    clear hb hg
    generalize v5.alloc (.cells (snC y) 23) = v6 at *
    have c0 : v6.cell? ⟨g, 0, none⟩ = some (.int .i64 y.k) := HY.out.cell 0
    have c1 : v6.cell? ⟨g, 1, none⟩ = some (.int .i64 y.a) := HY.out.cell 1
    have c2 : v6.cell? ⟨g, 2, none⟩ = some (.int .i64 y.q) := HY.out.cell 2
    have c3 : v6.cell? ⟨g, 3, none⟩ = some (.int .i64 y.t) := HY.out.cell 3
    have d0 : v6.cell? ⟨r, 0, none⟩ = some (.int .i64 y.k) := HZ.out.cell 0
    have d1 : v6.cell? ⟨r, 1, none⟩ = some (.int .i64 y.a) := HZ.out.cell 1
    have d2 : v6.cell? ⟨r, 2, none⟩ = some (.int .i64 y.q) := HZ.out.cell 2
    have d3 : v6.cell? ⟨r, 3, none⟩ = some (.int .i64 y.t) := HZ.out.cell 3
    go_wp2_with (fail)
    refine (HSE.out v6).mono ?_; rintro e v7 ⟨rfl, hb⟩
    replace HB := Lib.hid (HB.out.trans (hb.mono HB.out.size)); clear hb
    clear c0 c1 c2 c3 d0 d1 d2 d3
    go_wp2_with (fail)
    refine (HW.out v7 (tt P HT HB)).mono ?_; rintro e v8 ⟨rfl, hb⟩
    replace HB := Lib.hid (HB.out.trans (hb.mono HB.out.size)); clear hb
    go_wp2_with (fail)
    go_ret
    exact ⟨rfl, HB.out⟩
end Go.Proofs.YthcaeihpdlgcaaaDoor
