/- store: the tables with a change made; what a base and records come to. -/
import Derived.Test.YtglfjlbhjaemgaaGreatDoorPk36
namespace Go.Proofs.YtglfjlbhjaemgaaGreatDoor
open Go.RowKit
open Ext (Ex Exts exV app_list list_size app_nil textX n4 ExtsF)
theorem on_done {w2 w3 : World} {L M : Nat → Prop} {g lun : Nat} {cur cur' : Array Value} {l : List Tb} {u : Tb} (hin : TbIn w2 L cur.toList l) (hb : Blk w3 g 140 cur') (ho : Only (fun k => k = g) w2 w3) (hL : ∀ k, L k → k < w2.heap.size ∧ k ≠ g) (hM : ∀ k, L k → M k) (hg : M g)
    (hfar : ∀ i, i < lun * 4 ∨ lun * 4 + 4 ≤ i → cur'[i]? = cur[i]?)
    (hu : ∃ E c, cur'[lun * 4]? = some (.int .i64 u.n) ∧ cur'[lun * 4 + 1]? = some (.string u.id) ∧ cur'[lun * 4 + 2]? = some (.string u.rc) ∧ cur'[lun * 4 + 3]? = some (.slice E u.ex.length c) ∧ Exts w3 E u.ex ∧ ∀ a, E = some a → 0 < u.ex.length → M a.block) :
    Tbs w3 M (some ⟨g, 0, none⟩) (l.set lun u) := fun _ => ⟨g, 0, rfl, hg, fun j t hj => by
  by_cases hjl : lun = j
  · subst hjl
    have hlt : lun < l.length := by
      have := (List.getElem?_eq_some_iff.1 hj).1
      rwa [List.length_set] at this
    rw [List.getElem?_set_self hlt] at hj
    obtain rfl := Option.some.inj hj
    obtain ⟨E, c, a0, a1, a2, a3, a4, a5⟩ := hu
    rw [Nat.zero_add]
    exact ⟨E, c, (hb.cell _).trans a0, (hb.cell _).trans a1, (hb.cell _).trans a2, (hb.cell _).trans a3, a4, a5⟩
  · rw [List.getElem?_set_ne hjl] at hj
    obtain ⟨E, c, a0, a1, a2, a3, a4, a5⟩ := hin j t hj
    rw [Array.getElem?_toList] at a0 a1 a2 a3
    rw [Nat.zero_add]
    exact ⟨E, c, (hb.cell _).trans ((hfar _ (by omega)).trans a0), (hb.cell _).trans ((hfar _ (by omega)).trans a1), (hb.cell _).trans ((hfar _ (by omega)).trans a2), (hb.cell _).trans ((hfar _ (by omega)).trans a3), a4.kept fun hn a ha => ho.block _ (hL _ (a5 a ha hn)).1 (hL _ (a5 a ha hn)).2, fun a ha hn => hM _ (a5 a ha hn)⟩⟩
set_option maxRecDepth 100000 in
set_option maxHeartbeats 4000000 in
theorem on_wrote (L : Nat → Prop) (b o cc lun : Nat) (l : List Tb) (t : Tb) (q : List Ex) (w : World) (h : Tbs w L (some ⟨b, o, none⟩) l) (hLlt : ∀ k, L k → k < w.heap.size) (ho : ∀ t ∈ l, t.Ok) (hn : l.length ≤ 8) (ht : l[lun]? = some t) (hc : (Chg.wrote q).Ok t.n) :
    Calls Tryz.prog 126 #[chV lun (.wrote q), .slice (some ⟨b, o, none⟩) l.length cc] w fun e w' => ∃ g c', e = .returned (.tuple #[.slice (some ⟨g, 0, none⟩) l.length c', .bool true]) ∧ Tbs w' (fun k => L k ∨ w.heap.size ≤ k) (some ⟨g, 0, none⟩) (l.set lun ((Chg.wrote q).ap t)) ∧ Below w.heap.size w w' ∧ w.heap.size ≤ g := by
  have hll : lun < l.length := (List.getElem?_eq_some_iff.1 ht).1
  have HT := Lib.hid (ho t (List.mem_of_getElem? ht))
  have HU := Lib.hid (Chg.ok HT.out hc)
  have HQ := Lib.hid hc.1
  have HTG := Lib.hid ht
  have HLL := Lib.hid hLlt
  have g1 : ¬ (lun : Int) ≥ (l.length : Int) := by omega
  have g2 : (lun : Int) < (l.length : Int) := by omega
  have g3 : (0 : Int) ≤ (lun : Int) := by omega
  obtain ⟨hx0, hxb⟩ := one_alloc w #[.int .i64 (lun : Int), .int .u8 87, .string (textX q)] 148 _ rfl
  have HX := Lib.hid hx0; have HXB := Lib.hid hxb
  have HCL := Lib.hid (clone_tbs L b o cc l _ (h.below hxb) (by omega) hn)
  show Calls Tryz.prog 126 #[.agg #[.int .i64 (lun : Int), .int .u8 87, .string (textX q)], .slice (some ⟨b, o, none⟩) l.length cc] w _
  clear h hx0 hxb ho ht hc hLlt
  go_enter Tryz.func126, Tryz.ntmps126
  go_wp2_with (fail)
  generalize hw1 : w.alloc (.cells #[.int .i64 (lun : Int), .int .u8 87, .string (textX q)] 148) = w1 at *
  refine HCL.out.mono ?_; rintro e w2 ⟨g, c', cur, rfl, hbk, hgs, hin, hb2⟩
  have HBK := Lib.hid hbk; have HGS := Lib.hid hgs; have HIN := Lib.hid hin
  have HB2 := Lib.hid (HXB.out.trans (hb2.mono HXB.out.size))
  have HX2 := Lib.hid (HX.out.below hb2 HX.out.lt)
  have k0 : w2.cell? ⟨w.heap.size, 0, none⟩ = some (.int .i64 (lun : Int)) := (HX2.out.cell 0).trans rfl
  have k1 : w2.cell? ⟨w.heap.size, 1, none⟩ = some (.int .u8 87) := (HX2.out.cell 1).trans rfl
  have k2 : w2.cell? ⟨w.heap.size, 2, none⟩ = some (.string (textX q)) := (HX2.out.cell 2).trans rfl
  obtain ⟨E, ce, a0, a1, a2, a3, hex, hexl⟩ := HIN.out lun t HTG.out
  rw [Array.getElem?_toList] at a0 a1 a2 a3
  have hsz := (Array.getElem?_eq_some_iff.1 a3).1
  have hgw : w.heap.size < g := Nat.lt_of_lt_of_le HX.out.lt HGS.out
  have HPE := Lib.hid (put_ex (fun k => L k ∨ w.heap.size ≤ k) g (lun * 4) cur E ce t.ex q w2 HBK.out hsz a3 hex (fun k hk => .inr (Nat.le_trans HB2.out.size hk)) (fun a ha hn => ⟨fun h => by have := HLL.out _ (hexl a ha hn); omega, .inl (hexl a ha hn)⟩) HT.out.good HQ.out)
  have HA := Lib.hid (And.intro a0 (And.intro a1 (And.intro a2 a3)))
  clear hbk hgs hin hb2 a0 a1 a2 a3 hex hexl HCL hw1
  go_wp2_with (fail)
  refine HPE.out.mono ?_; rintro e w3 ⟨rfl, E', ce', hb3, he3, hne3, ho3⟩
  have HB3 := Lib.hid hb3; have HE3 := Lib.hid he3; have HNE := Lib.hid hne3; have HO3 := Lib.hid ho3
  obtain ⟨a0, a1, a2, a3⟩ := HA.out
  have d0 : w3.cell? ⟨g, lun * 4, none⟩ = some (.int .i64 t.n) := (HB3.out.cell _).trans ((set_far (by omega)).trans a0)
  have d1 : w3.cell? ⟨g, lun * 4 + 1, none⟩ = some (.string t.id) := (HB3.out.cell _).trans ((set_far (by omega)).trans a1)
  have d2 : w3.cell? ⟨g, lun * 4 + 2, none⟩ = some (.string t.rc) := (HB3.out.cell _).trans ((set_far (by omega)).trans a2)
  have d3 : w3.cell? ⟨g, lun * 4 + 3, none⟩ = some (.slice E' (setsX t.ex q).length ce') := (HB3.out.cell _).trans (Array.getElem?_setIfInBounds_self_of_lt hsz)
  have HSD := Lib.hid (tb_sound ((Chg.wrote q).ap t) E' ce' w3 HU.out HE3.out)
  change Hid (Calls Tryz.prog 114 #[.agg #[.int .i64 t.n, .string t.id, .string t.rc, .slice E' (setsX t.ex q).length ce']] w3 _) at HSD
  clear hb3 he3 hne3 ho3 HPE a0 a1 a2 a3
  go_wp2_with (fail)
  refine HSD.out.mono ?_; rintro e w4 ⟨rfl, hb4⟩
  have HTS := Lib.hid (on_done (lun := lun) (M := fun k => L k ∨ w.heap.size ≤ k) (u := (Chg.wrote q).ap t) HIN.out HB3.out HO3.out (fun k hk => ⟨Nat.lt_of_lt_of_le (HLL.out k hk) HB2.out.size, fun h => by have := HLL.out k hk; omega⟩) (fun k hk => .inl hk) (.inr (by omega))
    (fun i hi => set_far (i := lun * 4 + 3) (by omega))
    (by
      obtain ⟨a0, a1, a2, a3⟩ := HA.out
      exact ⟨E', ce', (set_far (by omega)).trans a0, (set_far (by omega)).trans a1, (set_far (by omega)).trans a2, Array.getElem?_setIfInBounds_self_of_lt hsz, HE3.out, fun a ha hn => (HNE.out a ha hn).2⟩))
  have HT4 := Lib.hid (HTS.out.below hb4)
  have HB3' := Lib.hid (HB2.out.trans (HO3.out.toBelow HB2.out.size (fun k hk => by have : k = g := hk; omega)))
  have HB4 := Lib.hid (HB3'.out.trans (hb4.mono HB3'.out.size))
  clear hb4 d0 d1 d2 d3
  go_wp2_with (fail)
  go_ret2
  first | exact ⟨g, c', rfl, HT4.out, HB4.out, by omega⟩ | exact ⟨g, ⟨c', rfl⟩, HT4.out, HB4.out, by omega⟩
set_option maxRecDepth 100000 in
set_option maxHeartbeats 4000000 in
theorem on_cleared (L : Nat → Prop) (b o cc lun : Nat) (l : List Tb) (t : Tb) (rs : List (Nat × Nat)) (w : World) (h : Tbs w L (some ⟨b, o, none⟩) l) (hLlt : ∀ k, L k → k < w.heap.size) (ho : ∀ t ∈ l, t.Ok) (hn : l.length ≤ 8) (ht : l[lun]? = some t) (hc : (Chg.cleared rs).Ok t.n) :
    Calls Tryz.prog 126 #[chV lun (.cleared rs), .slice (some ⟨b, o, none⟩) l.length cc] w fun e w' => ∃ g c', e = .returned (.tuple #[.slice (some ⟨g, 0, none⟩) l.length c', .bool true]) ∧ Tbs w' (fun k => L k ∨ w.heap.size ≤ k) (some ⟨g, 0, none⟩) (l.set lun ((Chg.cleared rs).ap t)) ∧ Below w.heap.size w w' ∧ w.heap.size ≤ g := by
  have hll : lun < l.length := (List.getElem?_eq_some_iff.1 ht).1
  have HT := Lib.hid (ho t (List.mem_of_getElem? ht))
  have HU := Lib.hid (Chg.ok HT.out hc)
  have HQ := Lib.hid (show ∀ r ∈ rs, r.1 + r.2 ≤ 4096 from fun r hr => by have := hc.2 r hr; have := HT.out.n2; omega)
  have HQ2 := Lib.hid (show rs.length ≤ 100 from Nat.le_trans hc.1 (by omega))
  have HTG := Lib.hid ht
  have HLL := Lib.hid hLlt
  have g1 : ¬ (lun : Int) ≥ (l.length : Int) := by omega
  have g2 : (lun : Int) < (l.length : Int) := by omega
  have g3 : (0 : Int) ≤ (lun : Int) := by omega
  obtain ⟨hx0, hxb⟩ := one_alloc w #[.int .i64 (lun : Int), .int .u8 67, .string (rngB rs)] 148 _ rfl
  have HX := Lib.hid hx0; have HXB := Lib.hid hxb
  have HCL := Lib.hid (clone_tbs L b o cc l _ (h.below hxb) (by omega) hn)
  show Calls Tryz.prog 126 #[.agg #[.int .i64 (lun : Int), .int .u8 67, .string (rngB rs)], .slice (some ⟨b, o, none⟩) l.length cc] w _
  clear h hx0 hxb ho ht hc hLlt
  go_enter Tryz.func126, Tryz.ntmps126
  go_wp2_with (fail)
  generalize hw1 : w.alloc (.cells #[.int .i64 (lun : Int), .int .u8 67, .string (rngB rs)] 148) = w1 at *
  refine HCL.out.mono ?_; rintro e w2 ⟨g, c', cur, rfl, hbk, hgs, hin, hb2⟩
  have HBK := Lib.hid hbk; have HGS := Lib.hid hgs; have HIN := Lib.hid hin
  have HB2 := Lib.hid (HXB.out.trans (hb2.mono HXB.out.size))
  have HX2 := Lib.hid (HX.out.below hb2 HX.out.lt)
  have k0 : w2.cell? ⟨w.heap.size, 0, none⟩ = some (.int .i64 (lun : Int)) := (HX2.out.cell 0).trans rfl
  have k1 : w2.cell? ⟨w.heap.size, 1, none⟩ = some (.int .u8 67) := (HX2.out.cell 1).trans rfl
  have k2 : w2.cell? ⟨w.heap.size, 2, none⟩ = some (.string (rngB rs)) := (HX2.out.cell 2).trans rfl
  obtain ⟨E, ce, a0, a1, a2, a3, hex, hexl⟩ := HIN.out lun t HTG.out
  rw [Array.getElem?_toList] at a0 a1 a2 a3
  have hsz := (Array.getElem?_eq_some_iff.1 a3).1
  have hgw : w.heap.size < g := Nat.lt_of_lt_of_le HX.out.lt HGS.out
  have HPE := Lib.hid (drop_ex (fun k => L k ∨ w.heap.size ≤ k) g (lun * 4) cur E ce t.ex rs w2 HBK.out hsz a3 hex (fun k hk => .inr (Nat.le_trans HB2.out.size hk)) (fun a ha hn => ⟨fun h => by have := HLL.out _ (hexl a ha hn); omega, .inl (hexl a ha hn)⟩) HT.out.good HQ.out HQ2.out)
  have HA := Lib.hid (And.intro a0 (And.intro a1 (And.intro a2 a3)))
  clear hbk hgs hin hb2 a0 a1 a2 a3 hex hexl HCL hw1
  go_wp2_with (fail)
  refine HPE.out.mono ?_; rintro e w3 ⟨rfl, E', ce', hb3, he3, hne3, ho3⟩
  have HB3 := Lib.hid hb3; have HE3 := Lib.hid he3; have HNE := Lib.hid hne3; have HO3 := Lib.hid ho3
  obtain ⟨a0, a1, a2, a3⟩ := HA.out
  have d0 : w3.cell? ⟨g, lun * 4, none⟩ = some (.int .i64 t.n) := (HB3.out.cell _).trans ((set_far (by omega)).trans a0)
  have d1 : w3.cell? ⟨g, lun * 4 + 1, none⟩ = some (.string t.id) := (HB3.out.cell _).trans ((set_far (by omega)).trans a1)
  have d2 : w3.cell? ⟨g, lun * 4 + 2, none⟩ = some (.string t.rc) := (HB3.out.cell _).trans ((set_far (by omega)).trans a2)
  have d3 : w3.cell? ⟨g, lun * 4 + 3, none⟩ = some (.slice E' (dropsX t.ex rs).length ce') := (HB3.out.cell _).trans (Array.getElem?_setIfInBounds_self_of_lt hsz)
  have HSD := Lib.hid (tb_sound ((Chg.cleared rs).ap t) E' ce' w3 HU.out HE3.out)
  change Hid (Calls Tryz.prog 114 #[.agg #[.int .i64 t.n, .string t.id, .string t.rc, .slice E' (dropsX t.ex rs).length ce']] w3 _) at HSD
  clear hb3 he3 hne3 ho3 HPE a0 a1 a2 a3
  go_wp2_with (fail)
  refine HSD.out.mono ?_; rintro e w4 ⟨rfl, hb4⟩
  have HTS := Lib.hid (on_done (lun := lun) (M := fun k => L k ∨ w.heap.size ≤ k) (u := (Chg.cleared rs).ap t) HIN.out HB3.out HO3.out (fun k hk => ⟨Nat.lt_of_lt_of_le (HLL.out k hk) HB2.out.size, fun h => by have := HLL.out k hk; omega⟩) (fun k hk => .inl hk) (.inr (by omega))
    (fun i hi => set_far (i := lun * 4 + 3) (by omega))
    (by
      obtain ⟨a0, a1, a2, a3⟩ := HA.out
      exact ⟨E', ce', (set_far (by omega)).trans a0, (set_far (by omega)).trans a1, (set_far (by omega)).trans a2, Array.getElem?_setIfInBounds_self_of_lt hsz, HE3.out, fun a ha hn => (HNE.out a ha hn).2⟩))
  have HT4 := Lib.hid (HTS.out.below hb4)
  have HB3' := Lib.hid (HB2.out.trans (HO3.out.toBelow HB2.out.size (fun k hk => by have : k = g := hk; omega)))
  have HB4 := Lib.hid (HB3'.out.trans (hb4.mono HB3'.out.size))
  clear hb4 d0 d1 d2 d3
  go_wp2_with (fail)
  go_ret2
  first | exact ⟨g, c', rfl, HT4.out, HB4.out, by omega⟩ | exact ⟨g, ⟨c', rfl⟩, HT4.out, HB4.out, by omega⟩
set_option maxRecDepth 100000 in
set_option maxHeartbeats 4000000 in
theorem on_record (L : Nat → Prop) (b o cc lun : Nat) (l : List Tb) (t : Tb) (s : ByteArray) (w : World) (h : Tbs w L (some ⟨b, o, none⟩) l) (hLlt : ∀ k, L k → k < w.heap.size) (ho : ∀ t ∈ l, t.Ok) (hn : l.length ≤ 8) (ht : l[lun]? = some t) (hc : (Chg.record s).Ok t.n) :
    Calls Tryz.prog 126 #[chV lun (.record s), .slice (some ⟨b, o, none⟩) l.length cc] w fun e w' => ∃ g c', e = .returned (.tuple #[.slice (some ⟨g, 0, none⟩) l.length c', .bool true]) ∧ Tbs w' (fun k => L k ∨ w.heap.size ≤ k) (some ⟨g, 0, none⟩) (l.set lun ((Chg.record s).ap t)) ∧ Below w.heap.size w w' ∧ w.heap.size ≤ g := by
  have hll : lun < l.length := (List.getElem?_eq_some_iff.1 ht).1
  have HT := Lib.hid (ho t (List.mem_of_getElem? ht))
  have HU := Lib.hid (Chg.ok HT.out hc)
  have HQ := Lib.hid (show s.size ≤ 281474976710656 from Nat.le_trans hc (by decide))
  have HTG := Lib.hid ht
  have HLL := Lib.hid hLlt
  have g1 : ¬ (lun : Int) ≥ (l.length : Int) := by omega
  have g2 : (lun : Int) < (l.length : Int) := by omega
  have g3 : (0 : Int) ≤ (lun : Int) := by omega
  obtain ⟨hx0, hxb⟩ := one_alloc w #[.int .i64 (lun : Int), .int .u8 82, .string (s)] 148 _ rfl
  have HX := Lib.hid hx0; have HXB := Lib.hid hxb
  have HCL := Lib.hid (clone_tbs L b o cc l _ (h.below hxb) (by omega) hn)
  show Calls Tryz.prog 126 #[.agg #[.int .i64 (lun : Int), .int .u8 82, .string (s)], .slice (some ⟨b, o, none⟩) l.length cc] w _
  clear h hx0 hxb ho ht hc hLlt
  go_enter Tryz.func126, Tryz.ntmps126
  go_wp2_with (fail)
  generalize hw1 : w.alloc (.cells #[.int .i64 (lun : Int), .int .u8 82, .string (s)] 148) = w1 at *
  refine HCL.out.mono ?_; rintro e w2 ⟨g, c', cur, rfl, hbk, hgs, hin, hb2⟩
  have HBK := Lib.hid hbk; have HGS := Lib.hid hgs; have HIN := Lib.hid hin
  have HB2 := Lib.hid (HXB.out.trans (hb2.mono HXB.out.size))
  have HX2 := Lib.hid (HX.out.below hb2 HX.out.lt)
  have k0 : w2.cell? ⟨w.heap.size, 0, none⟩ = some (.int .i64 (lun : Int)) := (HX2.out.cell 0).trans rfl
  have k1 : w2.cell? ⟨w.heap.size, 1, none⟩ = some (.int .u8 82) := (HX2.out.cell 1).trans rfl
  have k2 : w2.cell? ⟨w.heap.size, 2, none⟩ = some (.string (s)) := (HX2.out.cell 2).trans rfl
  obtain ⟨E, ce, a0, a1, a2, a3, hex, hexl⟩ := HIN.out lun t HTG.out
  rw [Array.getElem?_toList] at a0 a1 a2 a3
  have hsz := (Array.getElem?_eq_some_iff.1 a3).1
  have hgw : w.heap.size < g := Nat.lt_of_lt_of_le HX.out.lt HGS.out
  have HEX := Lib.hid hex; have HEXL := Lib.hid hexl
  have HA := Lib.hid (And.intro a0 (And.intro a1 (And.intro a2 a3)))
  clear hbk hgs hin hb2 a0 a1 a2 a3 hex hexl HCL hw1
  go_wp2_with (fail)
  refine (clone_any s _ HQ.out).mono ?_; rintro e w2' ⟨rfl, hbc⟩
  have HBC := Lib.hid hbc
  have HBKC := Lib.hid (HBK.out.below hbc HBK.out.lt)
  have HINC := Lib.hid (HIN.out.below hbc)
  have HEXC := Lib.hid (HEX.out.below hbc)
  have HB2C := Lib.hid (HB2.out.trans (hbc.mono HB2.out.size))
  have m0 : w2'.cell? ⟨g, lun * 4 + 2, none⟩ = some (.string t.rc) := (HBKC.out.cell _).trans HA.out.2.2.1
  have n0 := HBKC.out.free (lun * 4 + 2)
  have HB3 := Lib.hid (HBKC.out.put (lun * 4 + 2) (.string s))
  have HO3 := Lib.hid (show Only (fun k => k = g) w2' (w2'.setCell ⟨g, lun * 4 + 2, none⟩ (.string s)) from (Only.refl (fun k => k = g) w2').setCell (p := ⟨g, lun * 4 + 2, none⟩) (.inl rfl) (.string s))
  have hgl := HBKC.out.lt
  have HE3 := Lib.hid (show Exts (w2'.setCell ⟨g, lun * 4 + 2, none⟩ (.string s)) E t.ex from HEXC.out.kept fun hn a ha => Below.heap_setCell _ _ _ _ (fun h => by have := HLL.out _ (HEXL.out a ha hn); have h3 : a.block = g := h; omega))
  clear hbc
  go_upto_region 12 with (fail)
  clear m0 n0 k0 k1 k2
  generalize w2'.setCell ⟨g, lun * 4 + 2, none⟩ (.string s) = w3 at *
  obtain ⟨a0, a1, a2, a3⟩ := HA.out
  have d0 : w3.cell? ⟨g, lun * 4, none⟩ = some (.int .i64 t.n) := (HB3.out.cell _).trans ((set_far (by omega)).trans a0)
  have d1 : w3.cell? ⟨g, lun * 4 + 1, none⟩ = some (.string t.id) := (HB3.out.cell _).trans ((set_far (by omega)).trans a1)
  have d2 : w3.cell? ⟨g, lun * 4 + 2, none⟩ = some (.string s) := (HB3.out.cell _).trans (Array.getElem?_setIfInBounds_self_of_lt (by omega))
  have d3 : w3.cell? ⟨g, lun * 4 + 3, none⟩ = some (.slice E t.ex.length ce) := (HB3.out.cell _).trans ((set_far (by omega)).trans a3)
  have HSD := Lib.hid (tb_sound ((Chg.record s).ap t) E ce w3 HU.out HE3.out)
  change Hid (Calls Tryz.prog 114 #[.agg #[.int .i64 t.n, .string t.id,   .string s, .slice E t.ex.length ce]] w3 _) at HSD
  clear a0 a1 a2 a3
  go_wp2_with (fail)
  refine HSD.out.mono ?_; rintro e w4 ⟨rfl, hb4⟩
  have HTS := Lib.hid (on_done (lun := lun) (M := fun k => L k ∨ w.heap.size ≤ k) (u := (Chg.record s).ap t) HINC.out HB3.out HO3.out (fun k hk => ⟨Nat.lt_of_lt_of_le (HLL.out k hk) HB2C.out.size, fun h => by have := HLL.out k hk; omega⟩) (fun k hk => .inl hk) (.inr (by omega))
    (fun i hi => set_far (i := lun * 4 + 2) (by omega))
    (by
      obtain ⟨a0, a1, a2, a3⟩ := HA.out
      exact ⟨E, ce, (set_far (by omega)).trans a0, (set_far (by omega)).trans a1, Array.getElem?_setIfInBounds_self_of_lt (by omega), (set_far (by omega)).trans a3, HE3.out, fun a ha hn => .inl (HEXL.out a ha hn)⟩))
  have HT4 := Lib.hid (HTS.out.below hb4)
  have HB3' := Lib.hid (HB2C.out.trans (HO3.out.toBelow HB2C.out.size (fun k hk => by have : k = g := hk; omega)))
  have HB4 := Lib.hid (HB3'.out.trans (hb4.mono HB3'.out.size))
  clear hb4 d0 d1 d2 d3
  go_wp2_with (fail)
  go_ret2
  first | exact ⟨g, c', rfl, HT4.out, HB4.out, by omega⟩ | exact ⟨g, ⟨c', rfl⟩, HT4.out, HB4.out, by omega⟩
theorem on_any (L : Nat → Prop) (b o cc lun : Nat) (l : List Tb) (t : Tb) (c : Chg) (w : World) (h : Tbs w L (some ⟨b, o, none⟩) l) (hLlt : ∀ k, L k → k < w.heap.size) (ho : ∀ t ∈ l, t.Ok) (hn : l.length ≤ 8) (ht : l[lun]? = some t) (hc : c.Ok t.n) :
    Calls Tryz.prog 126 #[chV lun c, .slice (some ⟨b, o, none⟩) l.length cc] w fun e w' => ∃ g c', e = .returned (.tuple #[.slice (some ⟨g, 0, none⟩) l.length c', .bool true]) ∧ Tbs w' (fun k => L k ∨ w.heap.size ≤ k) (some ⟨g, 0, none⟩) (l.set lun (c.ap t)) ∧ Below w.heap.size w w' ∧ w.heap.size ≤ g := by
  cases c with
  | wrote q => exact on_wrote L b o cc lun l t q w h hLlt ho hn ht hc
  | cleared rs => exact on_cleared L b o cc lun l t rs w h hLlt ho hn ht hc
  | record s => exact on_record L b o cc lun l t s w h hLlt ho hn ht hc
def applyL (l : List Tb) (x : Nat × Chg) : List Tb := match l[x.1]? with | some t => l.set x.1 (x.2.ap t) | none => l
def playL (l : List Tb) (xs : List (Nat × Chg)) : List Tb := xs.foldl applyL l
def ChOk (l : List Tb) (x : Nat × Chg) : Prop := ∃ t, l[x.1]? = some t ∧ x.2.Ok t.n
theorem ap_n (c : Chg) (t : Tb) : (c.ap t).n = t.n := by cases c <;> rfl
theorem ap_id (c : Chg) (t : Tb) : (c.ap t).id = t.id := by cases c <;> rfl
theorem apply_some {l : List Tb} {x : Nat × Chg} {t : Tb} (h : l[x.1]? = some t) : applyL l x = l.set x.1 (x.2.ap t) := by unfold applyL; rw [h]
theorem apply_length (l : List Tb) (x : Nat × Chg) : (applyL l x).length = l.length := by
  unfold applyL
  split
  · exact List.length_set
  · rfl
theorem apply_at {l : List Tb} {x : Nat × Chg} {j : Nat} {t : Tb} (h : l[j]? = some t) : ∃ u, (applyL l x)[j]? = some u ∧ u.n = t.n ∧ u.id = t.id := by
  unfold applyL
  split
  · rename_i v hv
    by_cases e : x.1 = j
    · subst e
      rw [hv] at h
      obtain rfl := Option.some.inj h
      exact ⟨x.2.ap v, List.getElem?_set_self (List.getElem?_eq_some_iff.1 hv).1, ap_n _ _, ap_id _ _⟩
    · exact ⟨t, by rw [List.getElem?_set_ne e]; exact h, rfl, rfl⟩
  · exact ⟨t, h, rfl, rfl⟩
theorem ChOk.apply {l : List Tb} {x y : Nat × Chg} (h : ChOk l y) : ChOk (applyL l x) y := by
  obtain ⟨t, ht, hc⟩ := h
  obtain ⟨u, hu, hn, _⟩ := apply_at (x := x) ht
  exact ⟨u, hu, hn ▸ hc⟩
theorem apply_ok {l : List Tb} {x : Nat × Chg} (hl : ∀ t ∈ l, t.Ok) (hx : ChOk l x) : ∀ t ∈ applyL l x, t.Ok := by
  obtain ⟨t, ht, hc⟩ := hx
  rw [apply_some ht]
  intro u hu
  rcases List.mem_or_eq_of_mem_set hu with hu | rfl
  · exact hl u hu
  · exact Chg.ok (hl t (List.mem_of_getElem? ht)) hc
theorem play_snoc (l : List Tb) (xs : List (Nat × Chg)) (x : Nat × Chg) : playL l (xs ++ [x]) = applyL (playL l xs) x := by unfold playL; rw [List.foldl_append]; rfl
theorem play_all : ∀ {xs : List (Nat × Chg)} {l : List Tb}, (∀ t ∈ l, t.Ok) → (∀ x ∈ xs, ChOk l x) → (∀ t ∈ playL l xs, t.Ok) ∧ (playL l xs).length = l.length ∧ ∀ y, ChOk l y → ChOk (playL l xs) y
  | [], _, hl, _ => ⟨hl, rfl, fun _ h => h⟩
  | x :: xs, l, hl, h => by
    obtain ⟨h1, h2, h3⟩ := play_all (xs := xs) (l := applyL l x) (apply_ok hl (h x (List.mem_cons_self ..))) (fun y hy => (h y (List.mem_cons_of_mem _ hy)).apply)
    exact ⟨h1, h2.trans (apply_length l x), fun y hy => h3 y hy.apply⟩
def chText (x : Nat × Chg) : ByteArray := chB x.1 x.2
def RpAt (w : World) (l : List Tb) (xs : List (Nat × Chg)) (i v ok : Value) (wr : World) : Prop :=
  ∃ (k b o c : Nat), i = .int .i64 k ∧ k ≤ xs.length ∧ v = .slice (some ⟨b, o, none⟩) l.length c ∧ ok = .bool true ∧ Tbs wr (fun k => w.heap.size ≤ k ∧ k < wr.heap.size) (some ⟨b, o, none⟩) (playL l (xs.take k)) ∧ Below w.heap.size w wr
theorem Tbs.lt {w : World} {L : Nat → Prop} {A : Option Addr} {l : List Tb} (h : Tbs w L A l) : Tbs w (fun k => L k ∧ k < w.heap.size) A l := fun hn => by
  obtain ⟨b, o, rfl, hL, ht⟩ := h hn
  have hb : b < w.heap.size := by
    obtain ⟨E, c, c0, _⟩ := ht 0 _ (List.getElem?_eq_getElem hn)
    exact World.block_lt_of_cell? _ _ c0
  refine ⟨b, o, rfl, ⟨hL, hb⟩, fun j t hj => ?_⟩
  obtain ⟨E, c, c0, c1, c2, c3, he, hl⟩ := ht j t hj
  exact ⟨E, c, c0, c1, c2, c3, he, fun a ha hn => ⟨hl a ha hn, he.lt hn a ha⟩⟩
set_option maxRecDepth 100000 in
set_option maxHeartbeats 4000000 in
theorem replay_any (A : Option Addr) (c2 : Nat) (l : List Tb) (xs : List (Nat × Chg)) (w : World) (ho : ∀ t ∈ l, t.Ok) (h1 : 1 ≤ l.length) (hn : l.length ≤ 8) (hx : ∀ x ∈ xs, ChOk l x) (hs : Seen w A (xs.map chText)) (hxl : xs.length ≤ 8192) :
    Calls Tryz.prog 177 #[.string (baseB l), .slice A xs.length c2] w fun e w' => ∃ b o c, e = .returned (.tuple #[.slice (some ⟨b, o, none⟩) l.length c, .bool true]) ∧ Tbs w' (fun k => w.heap.size ≤ k) (some ⟨b, o, none⟩) (playL l xs) ∧ Below w.heap.size w w' := by
  have HP := Lib.hid (parse_tb l w ho h1 hn)
  have HO := Lib.hid ho
  have HX := Lib.hid hx
  have HS := Lib.hid hs
  have hnot : ∀ (x : Bool) (w : World), (Op.unary .not (.bool x)).run Tryz.prog w = .ok (.bool (!x)) w := fun _ _ => rfl
  clear ho hx hs
  go_enter Tryz.func177, Tryz.ntmps177
  go_wp2_with (fail)
  refine HP.out.mono ?_; rintro e w1 ⟨A1, c1, rfl, ht1, hb1⟩
  obtain ⟨b1, o1, rfl, _⟩ := ht1 h1
  have HT1 := Lib.hid ht1; have HB1 := Lib.hid hb1
  clear ht1 hb1
  go_wp2_with (fail)
  go_loopw [17, 6, 7] (fun i v ok wr => RpAt w l xs i v ok wr) (fun i _ _ _ => xs.length - (intOf i).toNat)
  case atStart => exact ⟨0, b1, o1, c1, rfl, Nat.zero_le _, rfl, rfl, HT1.out.lt, HB1.out⟩
  case round =>
    obtain ⟨k, b, o, c, rfl, hk, rfl, rfl, ht, hb⟩ := hrel
    have HT := Lib.hid ht; have HB := Lib.hid hb
    clear ht hb
    by_cases hlt : k < xs.length
    · have hki : (k : Int) < xs.length := by omega
      obtain ⟨x, hat⟩ : ∃ x, xs[k]? = some x := ⟨_, List.getElem?_eq_getElem hlt⟩
      obtain ⟨p1, p2, p3⟩ := play_all HO.out (xs := xs.take k) (fun y hy => HX.out y (List.mem_of_mem_take hy))
      obtain ⟨t, htx, hcx⟩ := p3 x (HX.out x (List.mem_of_getElem? hat))
      have hx8 : x.1 < 8 := by have := (List.getElem?_eq_some_iff.1 htx).1; omega
      have HST := Lib.hid (show playL l (xs.take (k + 1)) = (playL l (xs.take k)).set x.1 (x.2.ap t) by rw [List.take_add_one, hat, Option.toList_some, play_snoc, apply_some htx])
      have hbz := Chg.body_size hcx
      have HRC := Lib.hid (fun v => read_change x.1 x.2 v hx8 (by omega))
      have HON := Lib.hid (fun v (hv : Below wr.heap.size wr v) => on_any (fun k => w.heap.size ≤ k ∧ k < wr.heap.size) b o c x.1 (playL l (xs.take k)) t x.2 v (HT.out.below hv) (fun k hk => Nat.lt_of_lt_of_le hk.2 hv.size) p1 (by omega) htx hcx)
      rw [p2] at HON
      obtain ⟨sb, so, rfl, hct⟩ := HS.out k (chText x) (by rw [List.getElem?_map, hat]; rfl)
      have d1 := (HB.out.cell (p := ⟨sb, so + k, none⟩) (World.block_lt_of_cell? _ _ hct)).trans hct
      have x0 : (0 : Int) ≤ (k : Int) := by omega
      change Hid (∀ v, Calls Tryz.prog 202 #[.string (chText x)] v _) at HRC
      clear hct hat p1 p2 p3 htx hcx hbz hx8
      generalize chText x = tx at *
      generalize chV x.1 x.2 = cv at *
      go_wp2_with (fail)
      refine (HRC.out _).mono ?_; rintro e w2 ⟨rfl, hb2⟩
      have B2 := Lib.hid hb2; clear hb2
      go_wp2_with (fail)
      refine (HON.out _ B2.out).mono ?_; rintro e w3 ⟨g, c', rfl, ht3, hb3, hg3⟩
      have B3 := Lib.hid (B2.out.trans (hb3.mono B2.out.size))
      have HT3 := Lib.hid (show Tbs w3 (fun k => w.heap.size ≤ k ∧ k < w3.heap.size) (some ⟨g, 0, none⟩) (playL l (xs.take (k + 1))) from by
        rw [HST.out]
        have hs1 := HB.out.size
        have hs2 := B2.out.size
        refine (ht3.mono (M := fun k => w.heap.size ≤ k) fun i hi => ?_).lt
        rcases hi with hi | hi
        · exact hi.1
        · omega)
      have HB3 := Lib.hid (HB.out.trans (B3.out.mono HB.out.size))
      clear ht3 hb3 HON
      go_wp2_with (fail)
      go_roundw
      case rel => exact ⟨k + 1, g, 0, c', by go_num, by omega, rfl, rfl, HT3.out, HB3.out⟩
      case measure => simp [intOf]; omega
    · obtain rfl : k = xs.length := by omega
      have hge : ¬ (xs.length : Int) < xs.length := by omega
      rw [List.take_length] at HT
      go_wp2_with (fail)
      go_ret2
      first | exact ⟨b, o, c, rfl, HT.out.mono (fun k hk => hk.1), HB.out⟩ | exact ⟨b, o, ⟨c, rfl⟩, HT.out.mono (fun k hk => hk.1), HB.out⟩ | exact ⟨b, ⟨o, c, rfl⟩, HT.out.mono (fun k hk => hk.1), HB.out⟩
end Go.Proofs.YtglfjlbhjaemgaaGreatDoor
