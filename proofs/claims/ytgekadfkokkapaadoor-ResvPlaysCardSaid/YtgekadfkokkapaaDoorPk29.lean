/- The document's Do: the ways that change nothing; a registration. -/
import Derived.Test.YtgekadfkokkapaaDoorPk28
namespace Go.Proofs.YtgekadfkokkapaaDoor
open Go.RowKit
/-- The boxes of the document's Do, ahead of its copy. -/
structure RdS (nb : Nat) (w v : World) (A : Option Addr) (c : Nat) (t : Tl) (m : Cm) : Prop where
  box : Blk v nb 27 (tlC A c t)
  cmd : Blk v (nb + 1) 37 (cmC m)
  res : Blk v (nb + 2) 43 tdZ
  rg : Rgs v A t.rs
  bel : Below nb w v
theorem RdS.from (w : World) (A : Option Addr) (c : Nat) (t : Tl) (m : Cm) (hl : Rgs w A t.rs) :
    RdS w.heap.size w (((w.alloc (.cells (tlC A c t) 27)).alloc (.cells (cmC m) 37)).alloc (.cells tdZ 43)) A c t m := by
  have hb := (((Below.refl w.heap.size w).alloc (Nat.le_refl _) (.cells (tlC A c t) 27)).alloc (by simp) (.cells (cmC m) 37)).alloc (by simp; omega) (.cells tdZ 43)
  refine ⟨((Blk.new w _ _).alloc _).alloc _, ?_, ?_, hl.below hb, hb⟩
  · have := (Blk.new (w.alloc (.cells (tlC A c t) 27)) 37 (cmC m)).alloc (.cells tdZ 43)
    simpa using this
  · have := Blk.new ((w.alloc (.cells (tlC A c t) 27)).alloc (.cells (cmC m) 37)) 43 tdZ
    simpa using this
theorem RdS.copied {nb : Nat} {w v v1 : World} {A A2 : Option Addr} {c k2 : Nat} {t : Tl} {m : Cm} (h : RdS nb w v A c t m) (ho : Own v1 v.heap.size A2 k2 t.rs) (hb : Below v.heap.size v v1) :
    ∀ V, V = (((((v1.setCell ⟨nb, 0, none⟩ (.slice A2 t.rs.length k2)).setCell ⟨nb, 1, none⟩ (.int .i64 t.ty)).setCell ⟨nb, 2, none⟩ (.string t.ho)).setCell ⟨nb, 3, none⟩ (.int .u32 t.ge)).setCell ⟨nb, 4, none⟩ (.bool t.ap)) → RdAt nb nb w V A2 k2 t m ∧ Own V (nb + 3) A2 k2 t.rs ∧ nb + 3 ≤ V.heap.size := by
  rintro V rfl
  have b1 := h.box.below hb h.box.lt
  have b2 := h.cmd.below hb h.cmd.lt
  have b3 := h.res.below hb h.res.lt
  have bel : Below nb w v1 := h.bel.trans (hb.mono (Nat.le_of_lt h.box.lt))
  have o0 := Only.refl (fun k => k = nb) v1
  have o1 := o0.setCell (p := ⟨nb, 0, none⟩) (.inl rfl) (.slice A2 t.rs.length k2)
  have o2 := o1.setCell (p := ⟨nb, 1, none⟩) (.inl rfl) (.int .i64 t.ty)
  have o3 := o2.setCell (p := ⟨nb, 2, none⟩) (.inl rfl) (.string t.ho)
  have o4 := o3.setCell (p := ⟨nb, 3, none⟩) (.inl rfl) (.int .u32 t.ge)
  have o5 := o4.setCell (p := ⟨nb, 4, none⟩) (.inl rfl) (.bool t.ap)
  have hlt := h.box.lt
  have hlr := h.res.lt
  refine ⟨⟨?_, b2.only o5 (by omega), b3.only o5 (by omega), ⟨own_base (own_keep ho.1 fun g hg => o5.block g (ho.1.lt g hg).2 (by have := (ho.1.lt g hg).1; omega)) (fun g hg => by have := (ho.1.lt g hg).1; omega), ho.2⟩, bel.trans (o5.toBelow (Nat.le_trans (Nat.le_of_lt hlt) hb.size) (fun k hk => by omega)), Nat.le_refl _⟩, ⟨own_base (own_keep ho.1 fun g hg => o5.block g (ho.1.lt g hg).2 (by have := (ho.1.lt g hg).1; omega)) (fun g hg => by have := (ho.1.lt g hg).1; omega), ho.2⟩, Nat.le_trans (by omega) (Nat.le_trans hb.size o5.size)⟩
  exact (((((b1.put 0 (.slice A2 t.rs.length k2)).put 1 (.int .i64 t.ty)).put 2 (.string t.ho)).put 3 (.int .u32 t.ge)).put 4 (.bool t.ap))
/-- What a change came to, stored as the result. -/
theorem td_put2 {nb : Nat} {w v v4 : World} {A2 : Option Addr} {k2 : Nat} {t : Tl} {m : Cm} (h : RdAt nb nb w v A2 k2 t m) (hz : nb + 3 ≤ v.heap.size) {A5 B5 : Option Addr} {k5 e5 : Nat} {t' : Tl} {es : List Ev} (cd : Int) (ho : Own v4 (nb + 3) A5 k5 t'.rs) (he : OwnE v4 (nb + 3) B5 e5 es) (hb : Below (nb + 3) v v4) :
    ∀ V, V = (((((((v4.setCell ⟨nb + 1 + 1, 0, none⟩ (.slice A5 t'.rs.length k5)).setCell ⟨nb + 1 + 1, 1, none⟩ (.int .i64 t'.ty)).setCell ⟨nb + 1 + 1, 2, none⟩ (.string t'.ho)).setCell ⟨nb + 1 + 1, 3, none⟩ (.int .u32 t'.ge)).setCell ⟨nb + 1 + 1, 4, none⟩ (.bool t'.ap)).setCell ⟨nb + 1 + 1, 5, none⟩ (.slice B5 es.length e5)).setCell ⟨nb + 1 + 1, 6, none⟩ (.int .i64 cd)) → Blk V (nb + 1 + 1) 43 (tdC A5 k5 t' B5 e5 es cd) ∧ (Own V nb A5 k5 t'.rs ∧ OwnE V nb B5 e5 es) ∧ Below nb w V := by
  rintro V rfl
  have b := h.res.below hb (by omega)
  have o0 := Only.refl (fun k => k = nb + 2) v4
  have o1 := o0.setCell (p := ⟨nb + 1 + 1, 0, none⟩) (.inl rfl) (.slice A5 t'.rs.length k5)
  have o2 := o1.setCell (p := ⟨nb + 1 + 1, 1, none⟩) (.inl rfl) (.int .i64 t'.ty)
  have o3 := o2.setCell (p := ⟨nb + 1 + 1, 2, none⟩) (.inl rfl) (.string t'.ho)
  have o4 := o3.setCell (p := ⟨nb + 1 + 1, 3, none⟩) (.inl rfl) (.int .u32 t'.ge)
  have o5 := o4.setCell (p := ⟨nb + 1 + 1, 4, none⟩) (.inl rfl) (.bool t'.ap)
  have o6 := o5.setCell (p := ⟨nb + 1 + 1, 5, none⟩) (.inl rfl) (.slice B5 es.length e5)
  have o7 := o6.setCell (p := ⟨nb + 1 + 1, 6, none⟩) (.inl rfl) (.int .i64 cd)
  refine ⟨?_, ⟨⟨own_base (own_keep ho.1 fun g hg => o7.block g (ho.1.lt g hg).2 (by have := (ho.1.lt g hg).1; omega)) (fun g hg => by have := (ho.1.lt g hg).1; omega), ho.2⟩, own_base (own_keep he fun g hg => o7.block g (he.lt g hg).2 (by have := (he.lt g hg).1; omega)) (fun g hg => by have := (he.lt g hg).1; omega)⟩, (h.bel.trans (hb.mono (by omega))).trans (o7.toBelow (Nat.le_trans (by omega) hb.size) (fun k hk => by omega))⟩
  exact (((((((b.put 0 (.slice A5 t'.rs.length k5)).put 1 (.int .i64 t'.ty)).put 2 (.string t'.ho)).put 3 (.int .u32 t'.ge)).put 4 (.bool t'.ap)).put 5 (.slice B5 es.length e5)).put 6 (.int .i64 cd))
set_option maxRecDepth 100000 in
set_option maxHeartbeats 4000000 in
theorem refDo_bad (nb : Nat) (A : Option Addr) (c : Nat) (t : Tl) (m : Cm) (w : World) (hnb : nb = w.heap.size) (hl : Rgs w A t.rs) (hm : t.rs.length ≤ 200) (hs : m.ho.size ≤ 1000) (hgb : goodB t = false) :
    Calls Tryd.prog 23 #[tlV A c t, cmV m] w (RdOut nb w (t) ([]) (5)) := by
  have R0 := Lib.hid (RdS.from w A c t m hl)
  have HM2 := Lib.hid hm
  have HM := Lib.hid (show t.rs.length ≤ maxLen from Nat.le_trans hm (by decide))
  have HMs := Lib.hid (show m.ho.size ≤ maxLen from Nat.le_trans hs (by decide))
  have hnt := not_true
  have hnf := not_false
  clear hl hm hs
  go_enter Tryd.func23, Tryd.ntmps23
  go_upto_region 1 with (fail)
  change Code.wp _ _ _ _ (((w.alloc (.cells (tlC A c t) 27)).alloc (.cells (cmC m) 37)).alloc (.cells tdZ 43))
  generalize ((w.alloc (.cells (tlC A c t) 27)).alloc (.cells (cmC m) 37)).alloc (.cells tdZ 43) = v0 at *
  rw [← hnb] at R0 ⊢
  clear hnb
  have c0 : v0.cell? ⟨nb, 0, none⟩ = some (.slice A t.rs.length c) := R0.out.box.cell 0
  have c1 : v0.cell? ⟨nb, 1, none⟩ = some (.int .i64 t.ty) := R0.out.box.cell 1
  have c2 : v0.cell? ⟨nb, 2, none⟩ = some (.string t.ho) := R0.out.box.cell 2
  have c3 : v0.cell? ⟨nb, 3, none⟩ = some (.int .u32 t.ge) := R0.out.box.cell 3
  have c4 : v0.cell? ⟨nb, 4, none⟩ = some (.bool t.ap) := R0.out.box.cell 4
  go_wp2_with (fail)
  refine (copy_any A c t _ R0.out.rg (Nat.le_trans HM2.out (by decide))).mono ?_; rintro e v1 ⟨A2, k2, rfl, ho, hb⟩
  have hbox := R0.out.box.below hb R0.out.box.lt
  have e0 : v1.cell? ⟨nb, 0, none⟩ = some (.slice A t.rs.length c) := hbox.cell 0
  have f0 : v1.frozen? ⟨nb, 0, none⟩ = false := hbox.free 0
  have e1 : v1.cell? ⟨nb, 1, none⟩ = some (.int .i64 t.ty) := hbox.cell 1
  have f1 : v1.frozen? ⟨nb, 1, none⟩ = false := hbox.free 1
  have e2 : v1.cell? ⟨nb, 2, none⟩ = some (.string t.ho) := hbox.cell 2
  have f2 : v1.frozen? ⟨nb, 2, none⟩ = false := hbox.free 2
  have e3 : v1.cell? ⟨nb, 3, none⟩ = some (.int .u32 t.ge) := hbox.cell 3
  have f3 : v1.frozen? ⟨nb, 3, none⟩ = false := hbox.free 3
  have e4 : v1.cell? ⟨nb, 4, none⟩ = some (.bool t.ap) := hbox.cell 4
  have f4 : v1.frozen? ⟨nb, 4, none⟩ = false := hbox.free 4
  obtain ⟨rr, oo, zz⟩ := R0.out.copied ho hb _ rfl
  have R2 := Lib.hid rr; have O2 := Lib.hid oo; have Z2 := Lib.hid zz
  clear rr oo zz
  clear c0 c1 c2 c3 c4 hbox ho hb
  go_upto_region 2 with (fail)
  generalize (((((v1.setCell ⟨nb, 0, none⟩ (.slice A2 t.rs.length k2)).setCell ⟨nb, 1, none⟩ (.int .i64 t.ty)).setCell ⟨nb, 2, none⟩ (.string t.ho)).setCell ⟨nb, 3, none⟩ (.int .u32 t.ge)).setCell ⟨nb, 4, none⟩ (.bool t.ap)) = v2 at *
  clear e0 e1 e2 e3 e4 f0 f1 f2 f3 f4 R0
  have c0 : v2.cell? ⟨nb, 0, none⟩ = some (.slice A2 t.rs.length k2) := R2.out.box.cell 0
  have c1 : v2.cell? ⟨nb, 1, none⟩ = some (.int .i64 t.ty) := R2.out.box.cell 1
  have c2 : v2.cell? ⟨nb, 2, none⟩ = some (.string t.ho) := R2.out.box.cell 2
  have c3 : v2.cell? ⟨nb, 3, none⟩ = some (.int .u32 t.ge) := R2.out.box.cell 3
  have c4 : v2.cell? ⟨nb, 4, none⟩ = some (.bool t.ap) := R2.out.box.cell 4
  clear O2 Z2
  have HG := Lib.hid (fun u (hu : Rgs u A2 t.rs) => refGood_any A2 k2 t u hu HM.out)
  rw [hgb] at HG
  go_wp2_with (fail)
  refine (HG.out _ R2.out.own.rgs).mono ?_; rintro e v3 ⟨rfl, hb⟩
  have R3 := Lib.hid (R2.out.below hb)
  clear c0 c1 c2 c3 c4 hb HG R2
  have c0 : v3.cell? ⟨nb, 0, none⟩ = some (.slice A2 t.rs.length k2) := R3.out.box.cell 0
  have c1 : v3.cell? ⟨nb, 1, none⟩ = some (.int .i64 t.ty) := R3.out.box.cell 1
  have c2 : v3.cell? ⟨nb, 2, none⟩ = some (.string t.ho) := R3.out.box.cell 2
  have c3 : v3.cell? ⟨nb, 3, none⟩ = some (.int .u32 t.ge) := R3.out.box.cell 3
  have c4 : v3.cell? ⟨nb, 4, none⟩ = some (.bool t.ap) := R3.out.box.cell 4
  have r0 : v3.cell? ⟨nb + 1 + 1, 0, none⟩ = some (.slice none 0 0) := R3.out.res.cell 0
  have q0 : v3.frozen? ⟨nb + 1 + 1, 0, none⟩ = false := R3.out.res.free 0
  have r1 : v3.cell? ⟨nb + 1 + 1, 1, none⟩ = some (.int .i64 0) := R3.out.res.cell 1
  have q1 : v3.frozen? ⟨nb + 1 + 1, 1, none⟩ = false := R3.out.res.free 1
  have r2 : v3.cell? ⟨nb + 1 + 1, 2, none⟩ = some (.string ⟨#[]⟩) := R3.out.res.cell 2
  have q2 : v3.frozen? ⟨nb + 1 + 1, 2, none⟩ = false := R3.out.res.free 2
  have r3 : v3.cell? ⟨nb + 1 + 1, 3, none⟩ = some (.int .u32 0) := R3.out.res.cell 3
  have q3 : v3.frozen? ⟨nb + 1 + 1, 3, none⟩ = false := R3.out.res.free 3
  have r4 : v3.cell? ⟨nb + 1 + 1, 4, none⟩ = some (.bool false) := R3.out.res.cell 4
  have q4 : v3.frozen? ⟨nb + 1 + 1, 4, none⟩ = false := R3.out.res.free 4
  have r5 : v3.cell? ⟨nb + 1 + 1, 5, none⟩ = some (.slice none 0 0) := R3.out.res.cell 5
  have q5 : v3.frozen? ⟨nb + 1 + 1, 5, none⟩ = false := R3.out.res.free 5
  have r6 : v3.cell? ⟨nb + 1 + 1, 6, none⟩ = some (.int .i64 0) := R3.out.res.cell 6
  have q6 : v3.frozen? ⟨nb + 1 + 1, 6, none⟩ = false := R3.out.res.free 6
  go_wp2_with (fail)
  obtain ⟨hK, hO, hB⟩ := td_put R3.out (OwnE.nil v3 nb) (5) _ rfl
  refine bodyPost_ret_by (results_cell_row rfl _ _ (nb + 1 + 1) 43 (tdC A2 k2 (t) none 0 ([]) (5)) (0, 0) _ rfl hK Tryd.underlying43 rfl size43) rfl ?_
  exact ⟨A2, k2, none, 0, rfl, hO.1, hO.2, hB⟩
set_option maxRecDepth 100000 in
set_option maxHeartbeats 4000000 in
theorem refDo_name (nb : Nat) (A : Option Addr) (c : Nat) (t : Tl) (m : Cm) (w : World) (hnb : nb = w.heap.size) (hl : Rgs w A t.rs) (hm : t.rs.length ≤ 200) (hs : m.ho.size ≤ 1000) (hgb : goodB t = true) (hnm : nameB m.ho = false) :
    Calls Tryd.prog 23 #[tlV A c t, cmV m] w (RdOut nb w (t) ([]) (5)) := by
  have R0 := Lib.hid (RdS.from w A c t m hl)
  have HM2 := Lib.hid hm
  have HM := Lib.hid (show t.rs.length ≤ maxLen from Nat.le_trans hm (by decide))
  have HMs := Lib.hid (show m.ho.size ≤ maxLen from Nat.le_trans hs (by decide))
  have hnt := not_true
  have hnf := not_false
  clear hl hm hs
  go_enter Tryd.func23, Tryd.ntmps23
  go_upto_region 1 with (fail)
  change Code.wp _ _ _ _ (((w.alloc (.cells (tlC A c t) 27)).alloc (.cells (cmC m) 37)).alloc (.cells tdZ 43))
  generalize ((w.alloc (.cells (tlC A c t) 27)).alloc (.cells (cmC m) 37)).alloc (.cells tdZ 43) = v0 at *
  rw [← hnb] at R0 ⊢
  clear hnb
  have c0 : v0.cell? ⟨nb, 0, none⟩ = some (.slice A t.rs.length c) := R0.out.box.cell 0
  have c1 : v0.cell? ⟨nb, 1, none⟩ = some (.int .i64 t.ty) := R0.out.box.cell 1
  have c2 : v0.cell? ⟨nb, 2, none⟩ = some (.string t.ho) := R0.out.box.cell 2
  have c3 : v0.cell? ⟨nb, 3, none⟩ = some (.int .u32 t.ge) := R0.out.box.cell 3
  have c4 : v0.cell? ⟨nb, 4, none⟩ = some (.bool t.ap) := R0.out.box.cell 4
  go_wp2_with (fail)
  refine (copy_any A c t _ R0.out.rg (Nat.le_trans HM2.out (by decide))).mono ?_; rintro e v1 ⟨A2, k2, rfl, ho, hb⟩
  have hbox := R0.out.box.below hb R0.out.box.lt
  have e0 : v1.cell? ⟨nb, 0, none⟩ = some (.slice A t.rs.length c) := hbox.cell 0
  have f0 : v1.frozen? ⟨nb, 0, none⟩ = false := hbox.free 0
  have e1 : v1.cell? ⟨nb, 1, none⟩ = some (.int .i64 t.ty) := hbox.cell 1
  have f1 : v1.frozen? ⟨nb, 1, none⟩ = false := hbox.free 1
  have e2 : v1.cell? ⟨nb, 2, none⟩ = some (.string t.ho) := hbox.cell 2
  have f2 : v1.frozen? ⟨nb, 2, none⟩ = false := hbox.free 2
  have e3 : v1.cell? ⟨nb, 3, none⟩ = some (.int .u32 t.ge) := hbox.cell 3
  have f3 : v1.frozen? ⟨nb, 3, none⟩ = false := hbox.free 3
  have e4 : v1.cell? ⟨nb, 4, none⟩ = some (.bool t.ap) := hbox.cell 4
  have f4 : v1.frozen? ⟨nb, 4, none⟩ = false := hbox.free 4
  obtain ⟨rr, oo, zz⟩ := R0.out.copied ho hb _ rfl
  have R2 := Lib.hid rr; have O2 := Lib.hid oo; have Z2 := Lib.hid zz
  clear rr oo zz
  clear c0 c1 c2 c3 c4 hbox ho hb
  go_upto_region 2 with (fail)
  generalize (((((v1.setCell ⟨nb, 0, none⟩ (.slice A2 t.rs.length k2)).setCell ⟨nb, 1, none⟩ (.int .i64 t.ty)).setCell ⟨nb, 2, none⟩ (.string t.ho)).setCell ⟨nb, 3, none⟩ (.int .u32 t.ge)).setCell ⟨nb, 4, none⟩ (.bool t.ap)) = v2 at *
  clear e0 e1 e2 e3 e4 f0 f1 f2 f3 f4 R0
  have c0 : v2.cell? ⟨nb, 0, none⟩ = some (.slice A2 t.rs.length k2) := R2.out.box.cell 0
  have c1 : v2.cell? ⟨nb, 1, none⟩ = some (.int .i64 t.ty) := R2.out.box.cell 1
  have c2 : v2.cell? ⟨nb, 2, none⟩ = some (.string t.ho) := R2.out.box.cell 2
  have c3 : v2.cell? ⟨nb, 3, none⟩ = some (.int .u32 t.ge) := R2.out.box.cell 3
  have c4 : v2.cell? ⟨nb, 4, none⟩ = some (.bool t.ap) := R2.out.box.cell 4
  have HG := Lib.hid (fun u (hu : Rgs u A2 t.rs) => refGood_any A2 k2 t u hu HM.out)
  rw [hgb] at HG
  go_wp2_with (fail)
  refine (HG.out _ R2.out.own.rgs).mono ?_; rintro e v3 ⟨rfl, hb⟩
  have R3 := Lib.hid (R2.out.below hb); have O3 := Lib.hid (O2.out.below hb); have Z3 := Lib.hid (Nat.le_trans Z2.out hb.size)
  clear c0 c1 c2 c3 c4 hb HG R2 O2 Z2
  have m2 : v3.cell? ⟨nb + 1, 2, none⟩ = some (.string m.ho) := R3.out.cmd.cell 2
  have HNm := Lib.hid (fun u => refName_any m.ho u HMs.out)
  rw [hnm] at HNm
  go_wp2_with (fail)
  refine (HNm.out _).mono ?_; rintro e v4 ⟨rfl, rfl⟩
  clear m2
  have c0 : v3.cell? ⟨nb, 0, none⟩ = some (.slice A2 t.rs.length k2) := R3.out.box.cell 0
  have c1 : v3.cell? ⟨nb, 1, none⟩ = some (.int .i64 t.ty) := R3.out.box.cell 1
  have c2 : v3.cell? ⟨nb, 2, none⟩ = some (.string t.ho) := R3.out.box.cell 2
  have c3 : v3.cell? ⟨nb, 3, none⟩ = some (.int .u32 t.ge) := R3.out.box.cell 3
  have c4 : v3.cell? ⟨nb, 4, none⟩ = some (.bool t.ap) := R3.out.box.cell 4
  have r0 : v3.cell? ⟨nb + 1 + 1, 0, none⟩ = some (.slice none 0 0) := R3.out.res.cell 0
  have q0 : v3.frozen? ⟨nb + 1 + 1, 0, none⟩ = false := R3.out.res.free 0
  have r1 : v3.cell? ⟨nb + 1 + 1, 1, none⟩ = some (.int .i64 0) := R3.out.res.cell 1
  have q1 : v3.frozen? ⟨nb + 1 + 1, 1, none⟩ = false := R3.out.res.free 1
  have r2 : v3.cell? ⟨nb + 1 + 1, 2, none⟩ = some (.string ⟨#[]⟩) := R3.out.res.cell 2
  have q2 : v3.frozen? ⟨nb + 1 + 1, 2, none⟩ = false := R3.out.res.free 2
  have r3 : v3.cell? ⟨nb + 1 + 1, 3, none⟩ = some (.int .u32 0) := R3.out.res.cell 3
  have q3 : v3.frozen? ⟨nb + 1 + 1, 3, none⟩ = false := R3.out.res.free 3
  have r4 : v3.cell? ⟨nb + 1 + 1, 4, none⟩ = some (.bool false) := R3.out.res.cell 4
  have q4 : v3.frozen? ⟨nb + 1 + 1, 4, none⟩ = false := R3.out.res.free 4
  have r5 : v3.cell? ⟨nb + 1 + 1, 5, none⟩ = some (.slice none 0 0) := R3.out.res.cell 5
  have q5 : v3.frozen? ⟨nb + 1 + 1, 5, none⟩ = false := R3.out.res.free 5
  have r6 : v3.cell? ⟨nb + 1 + 1, 6, none⟩ = some (.int .i64 0) := R3.out.res.cell 6
  have q6 : v3.frozen? ⟨nb + 1 + 1, 6, none⟩ = false := R3.out.res.free 6
  go_wp2_with (fail)
  obtain ⟨hK, hO, hB⟩ := td_put R3.out (OwnE.nil v3 nb) (5) _ rfl
  refine bodyPost_ret_by (results_cell_row rfl _ _ (nb + 1 + 1) 43 (tdC A2 k2 (t) none 0 ([]) (5)) (0, 0) _ rfl hK Tryd.underlying43 rfl size43) rfl ?_
  exact ⟨A2, k2, none, 0, rfl, hO.1, hO.2, hB⟩
set_option maxRecDepth 100000 in
set_option maxHeartbeats 4000000 in
theorem refDo_low (nb : Nat) (A : Option Addr) (c : Nat) (t : Tl) (m : Cm) (w : World) (hnb : nb = w.heap.size) (hl : Rgs w A t.rs) (hm : t.rs.length ≤ 200) (hs : m.ho.size ≤ 1000) (hgb : goodB t = true) (hnm : nameB m.ho = true) (hop : m.op < 8) :
    Calls Tryd.prog 23 #[tlV A c t, cmV m] w (RdOut nb w (t) ([]) (5)) := by
  have R0 := Lib.hid (RdS.from w A c t m hl)
  have HM2 := Lib.hid hm
  have HM := Lib.hid (show t.rs.length ≤ maxLen from Nat.le_trans hm (by decide))
  have HMs := Lib.hid (show m.ho.size ≤ maxLen from Nat.le_trans hs (by decide))
  have hnt := not_true
  have hnf := not_false
  clear hl hm hs
  go_enter Tryd.func23, Tryd.ntmps23
  go_upto_region 1 with (fail)
  change Code.wp _ _ _ _ (((w.alloc (.cells (tlC A c t) 27)).alloc (.cells (cmC m) 37)).alloc (.cells tdZ 43))
  generalize ((w.alloc (.cells (tlC A c t) 27)).alloc (.cells (cmC m) 37)).alloc (.cells tdZ 43) = v0 at *
  rw [← hnb] at R0 ⊢
  clear hnb
  have c0 : v0.cell? ⟨nb, 0, none⟩ = some (.slice A t.rs.length c) := R0.out.box.cell 0
  have c1 : v0.cell? ⟨nb, 1, none⟩ = some (.int .i64 t.ty) := R0.out.box.cell 1
  have c2 : v0.cell? ⟨nb, 2, none⟩ = some (.string t.ho) := R0.out.box.cell 2
  have c3 : v0.cell? ⟨nb, 3, none⟩ = some (.int .u32 t.ge) := R0.out.box.cell 3
  have c4 : v0.cell? ⟨nb, 4, none⟩ = some (.bool t.ap) := R0.out.box.cell 4
  go_wp2_with (fail)
  refine (copy_any A c t _ R0.out.rg (Nat.le_trans HM2.out (by decide))).mono ?_; rintro e v1 ⟨A2, k2, rfl, ho, hb⟩
  have hbox := R0.out.box.below hb R0.out.box.lt
  have e0 : v1.cell? ⟨nb, 0, none⟩ = some (.slice A t.rs.length c) := hbox.cell 0
  have f0 : v1.frozen? ⟨nb, 0, none⟩ = false := hbox.free 0
  have e1 : v1.cell? ⟨nb, 1, none⟩ = some (.int .i64 t.ty) := hbox.cell 1
  have f1 : v1.frozen? ⟨nb, 1, none⟩ = false := hbox.free 1
  have e2 : v1.cell? ⟨nb, 2, none⟩ = some (.string t.ho) := hbox.cell 2
  have f2 : v1.frozen? ⟨nb, 2, none⟩ = false := hbox.free 2
  have e3 : v1.cell? ⟨nb, 3, none⟩ = some (.int .u32 t.ge) := hbox.cell 3
  have f3 : v1.frozen? ⟨nb, 3, none⟩ = false := hbox.free 3
  have e4 : v1.cell? ⟨nb, 4, none⟩ = some (.bool t.ap) := hbox.cell 4
  have f4 : v1.frozen? ⟨nb, 4, none⟩ = false := hbox.free 4
  obtain ⟨rr, oo, zz⟩ := R0.out.copied ho hb _ rfl
  have R2 := Lib.hid rr; have O2 := Lib.hid oo; have Z2 := Lib.hid zz
  clear rr oo zz
  clear c0 c1 c2 c3 c4 hbox ho hb
  go_upto_region 2 with (fail)
  generalize (((((v1.setCell ⟨nb, 0, none⟩ (.slice A2 t.rs.length k2)).setCell ⟨nb, 1, none⟩ (.int .i64 t.ty)).setCell ⟨nb, 2, none⟩ (.string t.ho)).setCell ⟨nb, 3, none⟩ (.int .u32 t.ge)).setCell ⟨nb, 4, none⟩ (.bool t.ap)) = v2 at *
  clear e0 e1 e2 e3 e4 f0 f1 f2 f3 f4 R0
  have c0 : v2.cell? ⟨nb, 0, none⟩ = some (.slice A2 t.rs.length k2) := R2.out.box.cell 0
  have c1 : v2.cell? ⟨nb, 1, none⟩ = some (.int .i64 t.ty) := R2.out.box.cell 1
  have c2 : v2.cell? ⟨nb, 2, none⟩ = some (.string t.ho) := R2.out.box.cell 2
  have c3 : v2.cell? ⟨nb, 3, none⟩ = some (.int .u32 t.ge) := R2.out.box.cell 3
  have c4 : v2.cell? ⟨nb, 4, none⟩ = some (.bool t.ap) := R2.out.box.cell 4
  have HG := Lib.hid (fun u (hu : Rgs u A2 t.rs) => refGood_any A2 k2 t u hu HM.out)
  rw [hgb] at HG
  go_wp2_with (fail)
  refine (HG.out _ R2.out.own.rgs).mono ?_; rintro e v3 ⟨rfl, hb⟩
  have R3 := Lib.hid (R2.out.below hb); have O3 := Lib.hid (O2.out.below hb); have Z3 := Lib.hid (Nat.le_trans Z2.out hb.size)
  clear c0 c1 c2 c3 c4 hb HG R2 O2 Z2
  have m2 : v3.cell? ⟨nb + 1, 2, none⟩ = some (.string m.ho) := R3.out.cmd.cell 2
  have HNm := Lib.hid (fun u => refName_any m.ho u HMs.out)
  rw [hnm] at HNm
  go_wp2_with (fail)
  refine (HNm.out _).mono ?_; rintro e v4 ⟨rfl, rfl⟩
  clear m2
  have m0 : v3.cell? ⟨nb + 1, 0, none⟩ = some (.int .i64 m.op) := R3.out.cmd.cell 0
  have c0 : v3.cell? ⟨nb, 0, none⟩ = some (.slice A2 t.rs.length k2) := R3.out.box.cell 0
  have c1 : v3.cell? ⟨nb, 1, none⟩ = some (.int .i64 t.ty) := R3.out.box.cell 1
  have c2 : v3.cell? ⟨nb, 2, none⟩ = some (.string t.ho) := R3.out.box.cell 2
  have c3 : v3.cell? ⟨nb, 3, none⟩ = some (.int .u32 t.ge) := R3.out.box.cell 3
  have c4 : v3.cell? ⟨nb, 4, none⟩ = some (.bool t.ap) := R3.out.box.cell 4
  have r0 : v3.cell? ⟨nb + 1 + 1, 0, none⟩ = some (.slice none 0 0) := R3.out.res.cell 0
  have q0 : v3.frozen? ⟨nb + 1 + 1, 0, none⟩ = false := R3.out.res.free 0
  have r1 : v3.cell? ⟨nb + 1 + 1, 1, none⟩ = some (.int .i64 0) := R3.out.res.cell 1
  have q1 : v3.frozen? ⟨nb + 1 + 1, 1, none⟩ = false := R3.out.res.free 1
  have r2 : v3.cell? ⟨nb + 1 + 1, 2, none⟩ = some (.string ⟨#[]⟩) := R3.out.res.cell 2
  have q2 : v3.frozen? ⟨nb + 1 + 1, 2, none⟩ = false := R3.out.res.free 2
  have r3 : v3.cell? ⟨nb + 1 + 1, 3, none⟩ = some (.int .u32 0) := R3.out.res.cell 3
  have q3 : v3.frozen? ⟨nb + 1 + 1, 3, none⟩ = false := R3.out.res.free 3
  have r4 : v3.cell? ⟨nb + 1 + 1, 4, none⟩ = some (.bool false) := R3.out.res.cell 4
  have q4 : v3.frozen? ⟨nb + 1 + 1, 4, none⟩ = false := R3.out.res.free 4
  have r5 : v3.cell? ⟨nb + 1 + 1, 5, none⟩ = some (.slice none 0 0) := R3.out.res.cell 5
  have q5 : v3.frozen? ⟨nb + 1 + 1, 5, none⟩ = false := R3.out.res.free 5
  have r6 : v3.cell? ⟨nb + 1 + 1, 6, none⟩ = some (.int .i64 0) := R3.out.res.cell 6
  have q6 : v3.frozen? ⟨nb + 1 + 1, 6, none⟩ = false := R3.out.res.free 6
  go_wp2_with (fail)
  obtain ⟨hK, hO, hB⟩ := td_put R3.out (OwnE.nil v3 nb) (5) _ rfl
  refine bodyPost_ret_by (results_cell_row rfl _ _ (nb + 1 + 1) 43 (tdC A2 k2 (t) none 0 ([]) (5)) (0, 0) _ rfl hK Tryd.underlying43 rfl size43) rfl ?_
  exact ⟨A2, k2, none, 0, rfl, hO.1, hO.2, hB⟩
set_option maxRecDepth 100000 in
set_option maxHeartbeats 4000000 in
theorem refDo_high (nb : Nat) (A : Option Addr) (c : Nat) (t : Tl) (m : Cm) (w : World) (hnb : nb = w.heap.size) (hl : Rgs w A t.rs) (hm : t.rs.length ≤ 200) (hs : m.ho.size ≤ 1000) (hgb : goodB t = true) (hnm : nameB m.ho = true) (hop1 : ¬ m.op < 8) (hop : 12 < m.op) :
    Calls Tryd.prog 23 #[tlV A c t, cmV m] w (RdOut nb w (t) ([]) (5)) := by
  have R0 := Lib.hid (RdS.from w A c t m hl)
  have HM2 := Lib.hid hm
  have HM := Lib.hid (show t.rs.length ≤ maxLen from Nat.le_trans hm (by decide))
  have HMs := Lib.hid (show m.ho.size ≤ maxLen from Nat.le_trans hs (by decide))
  have hnt := not_true
  have hnf := not_false
  clear hl hm hs
  go_enter Tryd.func23, Tryd.ntmps23
  go_upto_region 1 with (fail)
  change Code.wp _ _ _ _ (((w.alloc (.cells (tlC A c t) 27)).alloc (.cells (cmC m) 37)).alloc (.cells tdZ 43))
  generalize ((w.alloc (.cells (tlC A c t) 27)).alloc (.cells (cmC m) 37)).alloc (.cells tdZ 43) = v0 at *
  rw [← hnb] at R0 ⊢
  clear hnb
  have c0 : v0.cell? ⟨nb, 0, none⟩ = some (.slice A t.rs.length c) := R0.out.box.cell 0
  have c1 : v0.cell? ⟨nb, 1, none⟩ = some (.int .i64 t.ty) := R0.out.box.cell 1
  have c2 : v0.cell? ⟨nb, 2, none⟩ = some (.string t.ho) := R0.out.box.cell 2
  have c3 : v0.cell? ⟨nb, 3, none⟩ = some (.int .u32 t.ge) := R0.out.box.cell 3
  have c4 : v0.cell? ⟨nb, 4, none⟩ = some (.bool t.ap) := R0.out.box.cell 4
  go_wp2_with (fail)
  refine (copy_any A c t _ R0.out.rg (Nat.le_trans HM2.out (by decide))).mono ?_; rintro e v1 ⟨A2, k2, rfl, ho, hb⟩
  have hbox := R0.out.box.below hb R0.out.box.lt
  have e0 : v1.cell? ⟨nb, 0, none⟩ = some (.slice A t.rs.length c) := hbox.cell 0
  have f0 : v1.frozen? ⟨nb, 0, none⟩ = false := hbox.free 0
  have e1 : v1.cell? ⟨nb, 1, none⟩ = some (.int .i64 t.ty) := hbox.cell 1
  have f1 : v1.frozen? ⟨nb, 1, none⟩ = false := hbox.free 1
  have e2 : v1.cell? ⟨nb, 2, none⟩ = some (.string t.ho) := hbox.cell 2
  have f2 : v1.frozen? ⟨nb, 2, none⟩ = false := hbox.free 2
  have e3 : v1.cell? ⟨nb, 3, none⟩ = some (.int .u32 t.ge) := hbox.cell 3
  have f3 : v1.frozen? ⟨nb, 3, none⟩ = false := hbox.free 3
  have e4 : v1.cell? ⟨nb, 4, none⟩ = some (.bool t.ap) := hbox.cell 4
  have f4 : v1.frozen? ⟨nb, 4, none⟩ = false := hbox.free 4
  obtain ⟨rr, oo, zz⟩ := R0.out.copied ho hb _ rfl
  have R2 := Lib.hid rr; have O2 := Lib.hid oo; have Z2 := Lib.hid zz
  clear rr oo zz
  clear c0 c1 c2 c3 c4 hbox ho hb
  go_upto_region 2 with (fail)
  generalize (((((v1.setCell ⟨nb, 0, none⟩ (.slice A2 t.rs.length k2)).setCell ⟨nb, 1, none⟩ (.int .i64 t.ty)).setCell ⟨nb, 2, none⟩ (.string t.ho)).setCell ⟨nb, 3, none⟩ (.int .u32 t.ge)).setCell ⟨nb, 4, none⟩ (.bool t.ap)) = v2 at *
  clear e0 e1 e2 e3 e4 f0 f1 f2 f3 f4 R0
  have c0 : v2.cell? ⟨nb, 0, none⟩ = some (.slice A2 t.rs.length k2) := R2.out.box.cell 0
  have c1 : v2.cell? ⟨nb, 1, none⟩ = some (.int .i64 t.ty) := R2.out.box.cell 1
  have c2 : v2.cell? ⟨nb, 2, none⟩ = some (.string t.ho) := R2.out.box.cell 2
  have c3 : v2.cell? ⟨nb, 3, none⟩ = some (.int .u32 t.ge) := R2.out.box.cell 3
  have c4 : v2.cell? ⟨nb, 4, none⟩ = some (.bool t.ap) := R2.out.box.cell 4
  have HG := Lib.hid (fun u (hu : Rgs u A2 t.rs) => refGood_any A2 k2 t u hu HM.out)
  rw [hgb] at HG
  go_wp2_with (fail)
  refine (HG.out _ R2.out.own.rgs).mono ?_; rintro e v3 ⟨rfl, hb⟩
  have R3 := Lib.hid (R2.out.below hb); have O3 := Lib.hid (O2.out.below hb); have Z3 := Lib.hid (Nat.le_trans Z2.out hb.size)
  clear c0 c1 c2 c3 c4 hb HG R2 O2 Z2
  have m2 : v3.cell? ⟨nb + 1, 2, none⟩ = some (.string m.ho) := R3.out.cmd.cell 2
  have HNm := Lib.hid (fun u => refName_any m.ho u HMs.out)
  rw [hnm] at HNm
  go_wp2_with (fail)
  refine (HNm.out _).mono ?_; rintro e v4 ⟨rfl, rfl⟩
  clear m2
  have m0 : v3.cell? ⟨nb + 1, 0, none⟩ = some (.int .i64 m.op) := R3.out.cmd.cell 0
  have c0 : v3.cell? ⟨nb, 0, none⟩ = some (.slice A2 t.rs.length k2) := R3.out.box.cell 0
  have c1 : v3.cell? ⟨nb, 1, none⟩ = some (.int .i64 t.ty) := R3.out.box.cell 1
  have c2 : v3.cell? ⟨nb, 2, none⟩ = some (.string t.ho) := R3.out.box.cell 2
  have c3 : v3.cell? ⟨nb, 3, none⟩ = some (.int .u32 t.ge) := R3.out.box.cell 3
  have c4 : v3.cell? ⟨nb, 4, none⟩ = some (.bool t.ap) := R3.out.box.cell 4
  have r0 : v3.cell? ⟨nb + 1 + 1, 0, none⟩ = some (.slice none 0 0) := R3.out.res.cell 0
  have q0 : v3.frozen? ⟨nb + 1 + 1, 0, none⟩ = false := R3.out.res.free 0
  have r1 : v3.cell? ⟨nb + 1 + 1, 1, none⟩ = some (.int .i64 0) := R3.out.res.cell 1
  have q1 : v3.frozen? ⟨nb + 1 + 1, 1, none⟩ = false := R3.out.res.free 1
  have r2 : v3.cell? ⟨nb + 1 + 1, 2, none⟩ = some (.string ⟨#[]⟩) := R3.out.res.cell 2
  have q2 : v3.frozen? ⟨nb + 1 + 1, 2, none⟩ = false := R3.out.res.free 2
  have r3 : v3.cell? ⟨nb + 1 + 1, 3, none⟩ = some (.int .u32 0) := R3.out.res.cell 3
  have q3 : v3.frozen? ⟨nb + 1 + 1, 3, none⟩ = false := R3.out.res.free 3
  have r4 : v3.cell? ⟨nb + 1 + 1, 4, none⟩ = some (.bool false) := R3.out.res.cell 4
  have q4 : v3.frozen? ⟨nb + 1 + 1, 4, none⟩ = false := R3.out.res.free 4
  have r5 : v3.cell? ⟨nb + 1 + 1, 5, none⟩ = some (.slice none 0 0) := R3.out.res.cell 5
  have q5 : v3.frozen? ⟨nb + 1 + 1, 5, none⟩ = false := R3.out.res.free 5
  have r6 : v3.cell? ⟨nb + 1 + 1, 6, none⟩ = some (.int .i64 0) := R3.out.res.cell 6
  have q6 : v3.frozen? ⟨nb + 1 + 1, 6, none⟩ = false := R3.out.res.free 6
  go_wp2_with (fail)
  obtain ⟨hK, hO, hB⟩ := td_put R3.out (OwnE.nil v3 nb) (5) _ rfl
  refine bodyPost_ret_by (results_cell_row rfl _ _ (nb + 1 + 1) 43 (tdC A2 k2 (t) none 0 ([]) (5)) (0, 0) _ rfl hK Tryd.underlying43 rfl size43) rfl ?_
  exact ⟨A2, k2, none, 0, rfl, hO.1, hO.2, hB⟩
set_option maxRecDepth 100000 in
set_option maxHeartbeats 4000000 in
theorem refDo_reg (nb : Nat) (A : Option Addr) (c : Nat) (t : Tl) (m : Cm) (w : World) (hnb : nb = w.heap.size) (hl : Rgs w A t.rs) (hm : t.rs.length ≤ 200) (hs : m.ho.size ≤ 1000) (hgb : goodB t = true) (hnm : nameB m.ho = true) (hop1 : ¬ m.op < 8) (hop2 : ¬ 12 < m.op) (h8 : (m.op == 8) = true) :
    Calls Tryd.prog 23 #[tlV A c t, cmV m] w (RdOut nb w (regT t m) (regE t m []) (regCode t m)) := by
  have R0 := Lib.hid (RdS.from w A c t m hl)
  have HM2 := Lib.hid hm
  have HM := Lib.hid (show t.rs.length ≤ maxLen from Nat.le_trans hm (by decide))
  have HMs := Lib.hid (show m.ho.size ≤ maxLen from Nat.le_trans hs (by decide))
  have hnt := not_true
  have hnf := not_false
  clear hl hm hs
  have HGd := Lib.hid (goodB_iff.1 hgb)
  go_enter Tryd.func23, Tryd.ntmps23
  go_upto_region 1 with (fail)
  change Code.wp _ _ _ _ (((w.alloc (.cells (tlC A c t) 27)).alloc (.cells (cmC m) 37)).alloc (.cells tdZ 43))
  generalize ((w.alloc (.cells (tlC A c t) 27)).alloc (.cells (cmC m) 37)).alloc (.cells tdZ 43) = v0 at *
  rw [← hnb] at R0 ⊢
  clear hnb
  have c0 : v0.cell? ⟨nb, 0, none⟩ = some (.slice A t.rs.length c) := R0.out.box.cell 0
  have c1 : v0.cell? ⟨nb, 1, none⟩ = some (.int .i64 t.ty) := R0.out.box.cell 1
  have c2 : v0.cell? ⟨nb, 2, none⟩ = some (.string t.ho) := R0.out.box.cell 2
  have c3 : v0.cell? ⟨nb, 3, none⟩ = some (.int .u32 t.ge) := R0.out.box.cell 3
  have c4 : v0.cell? ⟨nb, 4, none⟩ = some (.bool t.ap) := R0.out.box.cell 4
  go_wp2_with (fail)
  refine (copy_any A c t _ R0.out.rg (Nat.le_trans HM2.out (by decide))).mono ?_; rintro e v1 ⟨A2, k2, rfl, ho, hb⟩
  have hbox := R0.out.box.below hb R0.out.box.lt
  have e0 : v1.cell? ⟨nb, 0, none⟩ = some (.slice A t.rs.length c) := hbox.cell 0
  have f0 : v1.frozen? ⟨nb, 0, none⟩ = false := hbox.free 0
  have e1 : v1.cell? ⟨nb, 1, none⟩ = some (.int .i64 t.ty) := hbox.cell 1
  have f1 : v1.frozen? ⟨nb, 1, none⟩ = false := hbox.free 1
  have e2 : v1.cell? ⟨nb, 2, none⟩ = some (.string t.ho) := hbox.cell 2
  have f2 : v1.frozen? ⟨nb, 2, none⟩ = false := hbox.free 2
  have e3 : v1.cell? ⟨nb, 3, none⟩ = some (.int .u32 t.ge) := hbox.cell 3
  have f3 : v1.frozen? ⟨nb, 3, none⟩ = false := hbox.free 3
  have e4 : v1.cell? ⟨nb, 4, none⟩ = some (.bool t.ap) := hbox.cell 4
  have f4 : v1.frozen? ⟨nb, 4, none⟩ = false := hbox.free 4
  obtain ⟨rr, oo, zz⟩ := R0.out.copied ho hb _ rfl
  have R2 := Lib.hid rr; have O2 := Lib.hid oo; have Z2 := Lib.hid zz
  clear rr oo zz
  clear c0 c1 c2 c3 c4 hbox ho hb
  go_upto_region 2 with (fail)
  generalize (((((v1.setCell ⟨nb, 0, none⟩ (.slice A2 t.rs.length k2)).setCell ⟨nb, 1, none⟩ (.int .i64 t.ty)).setCell ⟨nb, 2, none⟩ (.string t.ho)).setCell ⟨nb, 3, none⟩ (.int .u32 t.ge)).setCell ⟨nb, 4, none⟩ (.bool t.ap)) = v2 at *
  clear e0 e1 e2 e3 e4 f0 f1 f2 f3 f4 R0
  have c0 : v2.cell? ⟨nb, 0, none⟩ = some (.slice A2 t.rs.length k2) := R2.out.box.cell 0
  have c1 : v2.cell? ⟨nb, 1, none⟩ = some (.int .i64 t.ty) := R2.out.box.cell 1
  have c2 : v2.cell? ⟨nb, 2, none⟩ = some (.string t.ho) := R2.out.box.cell 2
  have c3 : v2.cell? ⟨nb, 3, none⟩ = some (.int .u32 t.ge) := R2.out.box.cell 3
  have c4 : v2.cell? ⟨nb, 4, none⟩ = some (.bool t.ap) := R2.out.box.cell 4
  have HG := Lib.hid (fun u (hu : Rgs u A2 t.rs) => refGood_any A2 k2 t u hu HM.out)
  rw [hgb] at HG
  go_wp2_with (fail)
  refine (HG.out _ R2.out.own.rgs).mono ?_; rintro e v3 ⟨rfl, hb⟩
  have R3 := Lib.hid (R2.out.below hb); have O3 := Lib.hid (O2.out.below hb); have Z3 := Lib.hid (Nat.le_trans Z2.out hb.size)
  clear c0 c1 c2 c3 c4 hb HG R2 O2 Z2
  have m2 : v3.cell? ⟨nb + 1, 2, none⟩ = some (.string m.ho) := R3.out.cmd.cell 2
  have HNm := Lib.hid (fun u => refName_any m.ho u HMs.out)
  rw [hnm] at HNm
  go_wp2_with (fail)
  refine (HNm.out _).mono ?_; rintro e v4 ⟨rfl, rfl⟩
  clear m2
  have c0 : v3.cell? ⟨nb, 0, none⟩ = some (.slice A2 t.rs.length k2) := R3.out.box.cell 0
  have c1 : v3.cell? ⟨nb, 1, none⟩ = some (.int .i64 t.ty) := R3.out.box.cell 1
  have c2 : v3.cell? ⟨nb, 2, none⟩ = some (.string t.ho) := R3.out.box.cell 2
  have c3 : v3.cell? ⟨nb, 3, none⟩ = some (.int .u32 t.ge) := R3.out.box.cell 3
  have c4 : v3.cell? ⟨nb, 4, none⟩ = some (.bool t.ap) := R3.out.box.cell 4
  have m0 : v3.cell? ⟨nb + 1, 0, none⟩ = some (.int .i64 m.op) := R3.out.cmd.cell 0
  have m1 : v3.cell? ⟨nb + 1, 1, none⟩ = some (.int .i64 m.lu) := R3.out.cmd.cell 1
  have m2 : v3.cell? ⟨nb + 1, 2, none⟩ = some (.string m.ho) := R3.out.cmd.cell 2
  have m3 : v3.cell? ⟨nb + 1, 3, none⟩ = some (.int .i64 m.lb) := R3.out.cmd.cell 3
  have m4 : v3.cell? ⟨nb + 1, 4, none⟩ = some (.int .i64 m.bl) := R3.out.cmd.cell 4
  have m5 : v3.cell? ⟨nb + 1, 5, none⟩ = some (.string m.da) := R3.out.cmd.cell 5
  have m6 : v3.cell? ⟨nb + 1, 6, none⟩ = some (.bool m.fu) := R3.out.cmd.cell 6
  have m7 : v3.cell? ⟨nb + 1, 7, none⟩ = some (.slice m.rA m.rn m.rc) := R3.out.cmd.cell 7
  have m8 : v3.cell? ⟨nb + 1, 8, none⟩ = some (.int .u64 m.ke) := R3.out.cmd.cell 8
  have m9 : v3.cell? ⟨nb + 1, 9, none⟩ = some (.int .u64 m.nk) := R3.out.cmd.cell 9
  have m10 : v3.cell? ⟨nb + 1, 10, none⟩ = some (.int .u64 m.ot) := R3.out.cmd.cell 10
  have m11 : v3.cell? ⟨nb + 1, 11, none⟩ = some (.int .i64 m.ty) := R3.out.cmd.cell 11
  have m12 : v3.cell? ⟨nb + 1, 12, none⟩ = some (.bool m.ig) := R3.out.cmd.cell 12
  have m13 : v3.cell? ⟨nb + 1, 13, none⟩ = some (.int .i64 m.ap) := R3.out.cmd.cell 13
  go_wp2_with (fail)
  refine (refRegister_any (nb + 3) A2 k2 t m _ O3.out Z3.out HM2.out HGd.out HMs.out).mono ?_; rintro e v4 ⟨A5, k5, B5, e5, rfl, ho5, he5, hb5⟩
  have hres := R3.out.res.below hb5 (by omega)
  clear c0 c1 c2 c3 c4 m0 m1 m2 m3 m4 m5 m6 m7 m8 m9 m10 m11 m12 m13
  have r0 : v4.cell? ⟨nb + 1 + 1, 0, none⟩ = some (.slice none 0 0) := hres.cell 0
  have q0 : v4.frozen? ⟨nb + 1 + 1, 0, none⟩ = false := hres.free 0
  have r1 : v4.cell? ⟨nb + 1 + 1, 1, none⟩ = some (.int .i64 0) := hres.cell 1
  have q1 : v4.frozen? ⟨nb + 1 + 1, 1, none⟩ = false := hres.free 1
  have r2 : v4.cell? ⟨nb + 1 + 1, 2, none⟩ = some (.string ⟨#[]⟩) := hres.cell 2
  have q2 : v4.frozen? ⟨nb + 1 + 1, 2, none⟩ = false := hres.free 2
  have r3 : v4.cell? ⟨nb + 1 + 1, 3, none⟩ = some (.int .u32 0) := hres.cell 3
  have q3 : v4.frozen? ⟨nb + 1 + 1, 3, none⟩ = false := hres.free 3
  have r4 : v4.cell? ⟨nb + 1 + 1, 4, none⟩ = some (.bool false) := hres.cell 4
  have q4 : v4.frozen? ⟨nb + 1 + 1, 4, none⟩ = false := hres.free 4
  have r5 : v4.cell? ⟨nb + 1 + 1, 5, none⟩ = some (.slice none 0 0) := hres.cell 5
  have q5 : v4.frozen? ⟨nb + 1 + 1, 5, none⟩ = false := hres.free 5
  have r6 : v4.cell? ⟨nb + 1 + 1, 6, none⟩ = some (.int .i64 0) := hres.cell 6
  have q6 : v4.frozen? ⟨nb + 1 + 1, 6, none⟩ = false := hres.free 6
  obtain ⟨hK, hO, hB⟩ := td_put2 R3.out Z3.out (regCode t m) ho5 he5 hb5 _ rfl
  have HK := Lib.hid hK; have HO := Lib.hid hO; have HBb := Lib.hid hB
  clear hK hO hB ho5 he5 hb5 hres
  generalize (regT t m) = t5 at *
  generalize (regE t m []) = es5 at *
  generalize (regCode t m) = cd5 at *
  go_wp2_with (fail)
  refine bodyPost_ret_by (results_cell_row rfl _ _ (nb + 1 + 1) 43 (tdC A5 k5 t5 B5 e5 es5 cd5) (0, 0) _ rfl HK.out Tryd.underlying43 rfl size43) rfl ?_
  exact ⟨A5, k5, B5, e5, rfl, HO.out.1, HO.out.2, HBb.out⟩
end Go.Proofs.YtgekadfkokkapaaDoor
