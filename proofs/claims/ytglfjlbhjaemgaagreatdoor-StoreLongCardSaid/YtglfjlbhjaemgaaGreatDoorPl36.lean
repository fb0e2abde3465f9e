/- store: is the device there; what is stored of some blocks; how many are; a record. store: Used, Recorded, Flush. store: where blocks can be stored. store: the changes. store: the change of a Clear. store: the device beneath is written, and notes what came of it. store: the blocks of a write are laid. store: the units that a store tells. -/
import Derived.Test.YtglfjlbhjaemgaaGreatDoorPl35
namespace Go.Proofs.YtglfjlbhjaemgaaGreatDoor
open Go.RowKit
open Ext (Ex Exts exV ExtsF)
theorem SD.set {w : World} {S : Nat → Prop} {s p q n : Nat} {x : St} {j : Jn} {st : Sto} (h : SD w S s p q n x j st) (i : Nat) (u : Value) (st' : Sto) (hc : ∀ lv sv, (stC p q 1 0 lv sv st.ch st.sf st.bad).setIfInBounds i u = stC p q 1 0 lv sv st'.ch st'.sf st'.bad) (hl : st'.l = st.l) (hf : st'.f = st.f) : SD (w.setCell ⟨s, i, none⟩ u) S s p q n x j st' := by
  obtain ⟨J, G, h1, ⟨b, o, c, g, hb, hg, ht, hs, hgg⟩, h3, h4, h5⟩ := h.both
  have hsg : s ≠ g := hb.apart hg (by decide)
  have ho := (Only.refl (fun k => k = s) w).setCell (p := ⟨s, i, none⟩) (.inl rfl) u
  have hb1 := hb.put i u
  rw [hc] at hb1
  refine ⟨⟨J, G, h1.keep ho (fun k hk e => h3 k hk (by have : k = s := e; rw [this]; exact hs)) (fun e => h.far (by have : gTab = s := e; rw [this]; exact h5 _ hs)), ⟨b, o, c, g, by rw [hl]; exact hb1, by rw [hf]; exact hg.far (Ne.symm hsg) u, ?_, hs, hgg⟩, h3, h4, h5⟩, fun k hk => by simpa using h.lt k hk, h.far⟩
  rw [hl]
  exact ht.kept (fun k hk => Below.heap_setCell _ _ _ _ hk.2.1)
theorem SD.cells {w : World} {S : Nat → Prop} {s p q n : Nat} {x : St} {j : Jn} {st : Sto} (h : SD w S s p q n x j st) : ∃ lv sv, Blk w s 137 (stC p q 1 0 lv sv st.ch st.sf st.bad) ∧ S s := by
  obtain ⟨J, G, h1, ⟨b, o, c, g, hb, hg, ht, hs, hgg⟩, h3, h4, h5⟩ := h.both
  exact ⟨_, _, hb, h5 _ hs⟩
theorem SD.dv {w : World} {S : Nat → Prop} {s p q n : Nat} {x : St} {j : Jn} {st : Sto} (h : SD w S s p q n x j st) : ∃ F, Dv w F p n x := by
  obtain ⟨J, G, h1, _⟩ := h.both
  obtain ⟨F, _, hF, _⟩ := h1.both
  exact ⟨F, hF⟩
theorem ready_ok (w : World) {S : Nat → Prop} {s p q n : Nat} {x : St} {j : Jn} {st : Sto} (h : SD w S s p q n x j st) (hb : st.bad = false) (hd : x.down = false) :
    Calls Tryz.prog 72 #[.pointer (some ⟨s, 0, none⟩)] w fun e w' => e = .returned (.int .i64 0) ∧ w = w' := by
  obtain ⟨lv, sv, hk, _⟩ := h.cells
  obtain ⟨F, hF⟩ := h.dv
  rw [hb] at hk
  have k9 : w.cell? ⟨s, 9, none⟩ = some (.bool false) := (hk.cell 9).trans rfl
  have k0 : w.cell? ⟨s, 0, none⟩ = some (.pointer (some ⟨p, 0, none⟩)) := (hk.cell 0).trans rfl
  have HD := Lib.hid (hd ▸ down_any w hF)
  clear h hb hd hk hF
  go_enter Tryz.func72, Tryz.ntmps72
  go_wp2_with (fail)
  refine HD.out.mono ?_; rintro e w' ⟨rfl, rfl⟩
  go_wp2_with (fail)
  go_ret
  exact ⟨rfl, rfl⟩
theorem note_ok (w : World) {S : Nat → Prop} {s p q n : Nat} {x : St} {j : Jn} {st : Sto} (h : SD w S s p q n x j st) (hb : st.bad = false) :
    Calls Tryz.prog 73 #[.pointer (some ⟨s, 0, none⟩), .int .i64 0] w fun e w' => e = .returned (.int .i64 0) ∧ SD w' S s p q n x j st ∧ Only S w w' := by
  obtain ⟨lv, sv, hk, hs⟩ := h.cells
  have hset := h.set 9 (.bool false) st (fun lv sv => by rw [hb]; rfl) rfl rfl
  rw [hb] at hk
  have k9 : w.cell? ⟨s, 9, none⟩ = some (.bool false) := (hk.cell 9).trans rfl
  have f9 := hk.free 9
  have H := Lib.hid hset
  have HO := Lib.hid ((Only.refl S w).setCell (p := ⟨s, 9, none⟩) (.inl hs) (.bool false))
  clear h hb hk hset hs
  go_enter Tryz.func73, Tryz.ntmps73
  go_wp2_with (fail)
  go_ret
  exact ⟨rfl, H.out, HO.out⟩
/-- What is stored of some blocks. -/
def storedX (l : List Ex) (lba b : Nat) : List Ex := Ext.dropX (Ext.dropX l 0 lba) ((lba : Int) + b) (4096 - ((lba : Int) + b))
set_option maxHeartbeats 1000000 in
theorem stored_any (t : Tb) (A : Option Addr) (c : Nat) (lba b : Nat) (w : World) (hg : Ext.goodB t.ex = true) (he : Exts w A t.ex) (h : lba + b ≤ 4096) :
    Calls Tryz.prog 78 #[tbV t A c, .int .i64 (lba : Int), .int .i64 (b : Int)] w fun e w' => ∃ A' c', e = .returned (.slice A' (storedX t.ex lba b).length c') ∧ Exts w' A' (storedX t.ex lba b) ∧ Ext.goodB (storedX t.ex lba b) = true ∧ Below w.heap.size w w' := by
  obtain ⟨g1, _⟩ := Ext.drop_good (lba := 0) (k := lba) hg (by omega) (by omega) (by omega)
  obtain ⟨g2, _⟩ := Ext.drop_good (lba := (lba : Int) + b) (k := 4096 - ((lba : Int) + b)) g1 (by omega) (by omega) (by omega)
  have HG2 := Lib.hid (show Ext.goodB (storedX t.ex lba b) = true from g2)
  obtain ⟨hx0, hxb⟩ := one_alloc w #[.int .i64 t.n, .string t.id, .string t.rc, .slice A t.ex.length c] 140 _ rfl
  have HXB := Lib.hid hxb
  have HD1 := Lib.hid (fun v (hv : Exts v A t.ex) => (by
    have := Ext.drop_any A c t.ex 0 lba v hv (by omega) (by have := Ext.good_length hg; unfold maxLen; omega)
    rw [show Ext.dropR t.ex 0 lba = (Ext.dropX t.ex 0 lba, 0) from dropR_good (a := 0) hg (by omega)] at this
    exact this : Calls Tryz.prog 137 #[.slice A t.ex.length c, .int .i64 0, .int .i64 (lba : Int)] v fun e w' => ∃ A' c', e = .returned (.tuple #[.slice A' (Ext.dropX t.ex 0 lba).length c', .int .i64 0]) ∧ ExtsF v.heap.size w' A' (Ext.dropX t.ex 0 lba) ∧ Below v.heap.size v w'))
  have HD2 := Lib.hid (fun v A1 c1 (hv : Exts v A1 (Ext.dropX t.ex 0 lba)) => (by
    have := Ext.drop_any A1 c1 (Ext.dropX t.ex 0 lba) ((lba : Int) + b) (4096 - ((lba : Int) + b)) v hv (by omega) (by have := Ext.good_length g1; unfold maxLen; omega)
    rw [show Ext.dropR (Ext.dropX t.ex 0 lba) ((lba : Int) + b) (4096 - ((lba : Int) + b)) = (storedX t.ex lba b, 0) by
      unfold Ext.dropR storedX
      rw [g1, decide_eq_true (by omega : 0 ≤ (lba : Int) + b ∧ 0 ≤ 4096 - ((lba : Int) + b) ∧ 4096 - ((lba : Int) + b) ≤ 4096 - ((lba : Int) + b))]
      rfl] at this
    exact this : Calls Tryz.prog 137 #[.slice A1 (Ext.dropX t.ex 0 lba).length c1, .int .i64 ((lba : Int) + b), .int .i64 (4096 - ((lba : Int) + b))] v fun e w' => ∃ A' c', e = .returned (.tuple #[.slice A' (storedX t.ex lba b).length c', .int .i64 0]) ∧ ExtsF v.heap.size w' A' (storedX t.ex lba b) ∧ Below v.heap.size v w'))
  have HE1 := Lib.hid (he.below hxb)
  have w1 : IntKind.i64.wrap ((lba : Int) + b) = (lba : Int) + b := i64w _ (by omega)
  have w2 : IntKind.i64.wrap (4096 - ((lba : Int) + b)) = 4096 - ((lba : Int) + b) := i64w _ (by omega)
  unfold tbV
  clear g1 g2 hx0 hxb he hg
  go_enter Tryz.func78, Tryz.ntmps78
  go_wp2_with (fail)
  refine (HD1.out _ HE1.out).mono ?_; rintro e w3 ⟨A1, c1, rfl, hx1, hb1⟩
  have HE2 := Lib.hid hx1.1
  have HB2 := Lib.hid (HXB.out.trans (hb1.mono HXB.out.size))
  clear hx1 hb1
  go_wp2_with (fail)
  refine (HD2.out _ A1 c1 HE2.out).mono ?_; rintro e w4 ⟨A2, c2, rfl, hx2, hb2⟩
  have HE3 := Lib.hid hx2.1
  have HB3 := Lib.hid (HB2.out.trans (hb2.mono HB2.out.size))
  clear hx2 hb2
  go_wp2_with (fail)
  go_ret
  first | exact ⟨A2, c2, rfl, HE3.out, HG2.out, HB3.out⟩ | exact ⟨A2, ⟨c2, rfl⟩, HE3.out, HG2.out, HB3.out⟩
open Go.RowKit
open Ext (Ex Exts exV ExtsF)
theorem sout_below {S S' : Nat → Prop} {w w1 w2 : World} {s p q n : Nat} {x : St} {j : Jn} {st : Sto} (h : SD w1 S' s p q n x j st) (ho : Only S w w1) (hg : Grew S w S') (hb : Below w1.heap.size w1 w2) : SOut S w s p q n x j st w2 := ⟨S', h.below hb, ho.below hb, hg⟩
theorem SOut.trans {S T : Nat → Prop} {w w1 w2 : World} {s p q n : Nat} {x : St} {j : Jn} {st : Sto} (ho : Only S w w1) (hg : Grew S w T) (h : SOut T w1 s p q n x j st w2) : SOut S w s p q n x j st w2 := by
  obtain ⟨S', h1, h2, h3⟩ := h
  exact ⟨S', h1, ho.go hg h2, hg.trans h3 ho.size⟩
theorem SD.turn {w w' : World} {S J G : Nat → Prop} {s p q n : Nat} {y : St} {i : Jn} {st : Sto} (hG : Sv w G s p q n st) (hd : ∀ k, J k → ¬ G k) (h4 : ∀ k, J k → S k) (h5 : ∀ k, G k → S k) (hlt : ∀ k, S k → k < w.heap.size) (hfar : ¬ S gTab) (ho : JOut J w p q n y i w') : SOut S w s p q n y i st w' := by
  obtain ⟨J', h1, h2, h3⟩ := ho
  have hGk : ∀ k, G k → ¬ J k := fun k hk hj => hd k hj hk
  refine ⟨fun k => S k ∨ J' k, ⟨⟨J', G, h1, hG.keep (fun k hk => hlt k (h5 k hk)) h2 hGk, fun k hk hg => ?_, fun k hk => .inr hk, fun k hk => .inl (h5 k hk)⟩, fun k hk => ?_, fun hk => ?_⟩, h2.mono h4, fun k hk => ?_⟩
  · rcases h3 k hk with hk | hk
    · exact hd k hk hg
    · have := hlt k (h5 k hg); omega
  · rcases hk with hk | hk
    · exact Nat.lt_of_lt_of_le (hlt k hk) h2.size
    · exact h1.lt k hk
  · rcases hk with hk | hk
    · exact hfar hk
    · exact h1.far hk
  · rcases hk with hk | hk
    · exact .inl hk
    · exact (h3 k hk).elim (fun h => .inl (h4 k h)) .inr
set_option maxRecDepth 100000 in
set_option maxHeartbeats 1000000 in
theorem used_ok (w : World) {S : Nat → Prop} {s p q n : Nat} {x : St} {j : Jn} {st : Sto} (h : Has w S s p q n x j st) (lun : Nat) (t : Tb) (ht : st.l[lun]? = some t) (hk : t.Ok) :
    Calls Tryz.prog 23 #[.pointer (some ⟨s, 0, none⟩), .int .i64 (lun : Int)] w fun e w' => e = .returned (.int .i64 (Ext.usedX t.ex)) ∧ SOut S w s p q n x j st w' := by
  have HT := Lib.hid (table_ok w h lun t ht)
  have HK := Lib.hid hk
  have hnot : ∀ (x : Bool) (w : World), (Op.unary .not (.bool x)).run Tryz.prog w = .ok (.bool (!x)) w := fun _ _ => rfl
  unfold tbV at HT
  clear h ht hk
  go_enter Tryz.func23, Tryz.ntmps23
  go_wp2_with (fail)
  refine HT.out.mono ?_; rintro e w1 ⟨E, c, S', rfl, hsd, he, hel, ho, hg⟩
  have hal := (Below.refl w1.heap.size w1).alloc (Nat.le_refl _) (.cells #[.int .i64 t.n, .string t.id, .string t.rc, .slice E t.ex.length c] 140)
  have HU := Lib.hid (Ext.used_any E c t.ex _ (he.below hal) (by have := HK.out.len; omega))
  have HAL := Lib.hid hal
  have HSD := Lib.hid hsd; have HO := Lib.hid ho; have HG := Lib.hid hg
  clear hsd he hel ho hg hal HT
  go_wp2_with (fail)
  refine HU.out.mono ?_; rintro e w2 ⟨rfl, hb2⟩
  have R := Lib.hid (sout_below HSD.out HO.out HG.out (HAL.out.trans (hb2.mono HAL.out.size)))
  clear hb2
  go_wp2_with (fail)
  go_ret
  exact ⟨rfl, R.out⟩
set_option maxRecDepth 100000 in
set_option maxHeartbeats 1000000 in
theorem recorded_ok (w : World) {S : Nat → Prop} {s p q n : Nat} {x : St} {j : Jn} {st : Sto} (h : Has w S s p q n x j st) (lun : Nat) (t : Tb) (ht : st.l[lun]? = some t) (hk : t.Ok) (hb : st.bad = false) (hd : x.down = false) :
    Calls Tryz.prog 32 #[.pointer (some ⟨s, 0, none⟩), .int .i64 (lun : Int)] w fun e w' => e = .returned (.tuple #[.string t.rc, .int .i64 0]) ∧ SOut S w s p q n x j st w' := by
  have HT := Lib.hid (table_ok w h lun t ht)
  have HK := Lib.hid (Nat.le_trans hk.rc (by decide : 2048 ≤ 281474976710656))
  have hnot : ∀ (x : Bool) (w : World), (Op.unary .not (.bool x)).run Tryz.prog w = .ok (.bool (!x)) w := fun _ _ => rfl
  have HBD := Lib.hid hb; have HDN := Lib.hid hd
  unfold tbV at HT
  clear h ht hk hb hd
  go_enter Tryz.func32, Tryz.ntmps32
  go_wp2_with (fail)
  refine HT.out.mono ?_; rintro e w1 ⟨E, c, S', rfl, hsd, he, hel, ho, hg⟩
  obtain ⟨hx0, hal⟩ := one_alloc w1 #[.int .i64 t.n, .string t.id, .string t.rc, .slice E t.ex.length c] 140 _ rfl
  have HX := Lib.hid hx0
  have HAL := Lib.hid hal
  have HSD := Lib.hid hsd; have HO := Lib.hid ho; have HG := Lib.hid hg
  have HRD := Lib.hid (ready_ok _ (hsd.below hal) HBD.out HDN.out)
  clear hsd he hel ho hg hal hx0 HT
  go_wp2_with (fail)
  refine HRD.out.mono ?_; rintro e w2 ⟨rfl, rfl⟩
  go_wp2_with (fail)
  refine (clone_any t.rc _ HK.out).mono ?_; rintro e w3 ⟨rfl, hb3⟩
  have R := Lib.hid (sout_below HSD.out HO.out HG.out (HAL.out.trans (hb3.mono HAL.out.size)))
  clear hb3
  go_wp2_with (fail)
  go_ret2
  exact ⟨rfl, R.out⟩
set_option maxRecDepth 100000 in
set_option maxHeartbeats 1000000 in
theorem sflush_ok (w : World) {S : Nat → Prop} {s p q n : Nat} {x : St} {j : Jn} {st : Sto} (h : SD w S s p q n x j st) (hb : st.bad = false) (hd : x.down = false) (hu : j.unfit = false) (hx : x.ops ≤ 1000000000000) (hf : x.flsh.2 = true) :
    Calls Tryz.prog 19 #[.pointer (some ⟨s, 0, none⟩)] w fun e w' => e = .returned (.int .i64 0) ∧ SOut S w s p q n x.flsh.1 j ⟨st.l, st.f, st.ch, st.ch, st.bad⟩ w' := by
  obtain ⟨J, G, h1, h2, h3, h4, h5⟩ := h.both
  obtain ⟨lv, sv, hk, hs⟩ := h.cells
  have k1 : w.cell? ⟨s, 1, none⟩ = some (.pointer (some ⟨q, 0, none⟩)) := (hk.cell 1).trans rfl
  have HR := Lib.hid (ready_ok w h hb hd)
  have hsy := sync_fit w h1 hu hx
  rw [hf, fit_same hu] at hsy
  have HSY := Lib.hid hsy
  have HTN := Lib.hid (fun w' (ho : JOut J w p q n x.flsh.1 j w') => SD.turn h2 h3 h4 h5 h.lt h.far ho)
  have HBD := Lib.hid hb
  clear h h1 h2 h3 h4 h5 hk hs hb hd hu hx hf hsy
  go_enter Tryz.func19, Tryz.ntmps19
  go_wp2_with (fail)
  refine HR.out.mono ?_; rintro e w' ⟨rfl, rfl⟩
  go_wp2_with (fail)
  refine HSY.out.mono ?_; rintro e w1 ⟨rfl, ho⟩
  obtain ⟨S1, hs1, ho1, hg1⟩ := HTN.out w1 ho
  have HS1 := Lib.hid hs1; have HO1 := Lib.hid ho1; have HG1 := Lib.hid hg1
  have HN := Lib.hid (note_ok w1 hs1 HBD.out)
  clear ho hs1 ho1 hg1 HSY HTN
  rw [show wrCode true = 0 from rfl]
  go_wp2_with (fail)
  refine HN.out.mono ?_; rintro e w2 ⟨rfl, hs2, ho2⟩
  obtain ⟨lv2, sv2, hk2, hS2⟩ := hs2.cells
  have k7 : w2.cell? ⟨s, 7, none⟩ = some (.int .u64 (st.ch : Int)) := (hk2.cell 7).trans rfl
  have k8 : w2.cell? ⟨s, 8, none⟩ = some (.int .u64 (st.sf : Int)) := (hk2.cell 8).trans rfl
  have f8 := hk2.free 8
  have hl := run_call_load (P := Tryz.prog) Tryz.func132 (by kernel_rfl) (by kernel_rfl) (by kernel_rfl) .u64 (by kernel_rfl) k7
  have HSF := Lib.hid (hs2.set 8 (.int .u64 (st.ch : Int)) ⟨st.l, st.f, st.ch, st.ch, st.bad⟩ (fun lv sv => rfl) rfl rfl)
  have HOF := Lib.hid (ho2.setCell (p := ⟨s, 8, none⟩) (.inl hS2) (.int .u64 (st.ch : Int)))
  clear hs2 ho2 hk2 hS2 HN
  go_wp2_with (go_at_call 75; go_in)
  go_ret
  exact ⟨rfl, SOut.trans HO1.out HG1.out ⟨S1, HSF.out, HOF.out, Grew.refl _ _⟩⟩
open Go.RowKit
open Ext (Ex Exts exV ExtsF)
theorem SD.space {w : World} {S : Nat → Prop} {s p q n : Nat} {x : St} {j : Jn} {st : Sto} (h : SD w S s p q n x j st) : ∃ lv g, Blk w s 137 (stC p q 1 0 lv (.slice (some ⟨g, 0, none⟩) (n - 576) (n - 576)) st.ch st.sf st.bad) ∧ Blk w g 260 (plC (n - 576) st.f) ∧ S s ∧ S g := by
  obtain ⟨J, G, h1, ⟨b, o, c, g, hb, hg, ht, hs, hgg⟩, h3, h4, h5⟩ := h.both
  exact ⟨_, g, hb, hg, h5 _ hs, h5 _ hgg⟩
set_option maxRecDepth 100000 in
set_option maxHeartbeats 2000000 in
/-- There is room at once. -/
theorem room_at_once (w : World) {S : Nat → Prop} {s p q n : Nat} {x : St} {j : Jn} {st : Sto} (h : SD w S s p q n x j st) (hb : st.bad = false) (hd : x.down = false) (lba blocks : Nat) (hl : lba + blocks ≤ 4096) (hn : n ≤ 8192) (hf : (fnd st.f st.sf lba blocks (n - 576)).2 = 0) :
    Calls Tryz.prog 68 #[.pointer (some ⟨s, 0, none⟩), .int .i64 (lba : Int), .int .i64 (blocks : Int)] w fun e w' => ∃ A c, e = .returned (.tuple #[.slice A (fnd st.f st.sf lba blocks (n - 576)).1.length c, .int .i64 0]) ∧ ExtsF w.heap.size w' A (fnd st.f st.sf lba blocks (n - 576)).1 ∧ SD w' S s p q n x j st ∧ Below w.heap.size w w' := by
  obtain ⟨lv, g, hk, hg, hs, hgs⟩ := h.space
  have k6 : w.cell? ⟨s, 6, none⟩ = some (.slice (some ⟨g, 0, none⟩) (n - 576) (n - 576)) := (hk.cell 6).trans rfl
  have k8 : w.cell? ⟨s, 8, none⟩ = some (.int .u64 (st.sf : Int)) := (hk.cell 8).trans rfl
  have HF := Lib.hid (fun v (hv : Below w.heap.size w v) => find_place g (n - 576) st.sf st.f lba blocks v (hg.below hv hg.lt) (by omega) (by omega) (by omega))
  rw [decide_eq_true hf] at HF
  have HR := Lib.hid (fun v (hv : Below w.heap.size w v) => ready_ok v (h.below hv) hb hd)
  have HSD := Lib.hid (fun v (hv : Below w.heap.size w v) => h.below hv)
  have BD := Lib.hid ((Below.refl w.heap.size w).drew)
  obtain ⟨m, hm⟩ : ∃ m, n - 576 = m := ⟨_, rfl⟩
  rw [hm] at k6 HF ⊢
  obtain ⟨r, hr⟩ : ∃ r, (fnd st.f st.sf lba blocks m).1 = r := ⟨_, rfl⟩
  rw [hr] at HF ⊢
  clear h hb hd hk hg hs hgs hf hr hl hn hm
  go_enter Tryz.func68, Tryz.ntmps68
  go_upto_region 1 with (fail)
  go_region_held3 (fun v => v.cell? ⟨s, 6, none⟩ = some (.slice (some ⟨g, 0, none⟩) m m) ∧ v.cell? ⟨s, 8, none⟩ = some (.int .u64 (st.sf : Int))) (first | exact ⟨k6, k8⟩ | exact ⟨e6, e8⟩) (first
    | (go_at_call 122; refine (HF.out _ BD.out).mono ?_; rintro e w2 ⟨A, c, rfl, hx2, hb2⟩
       have B2 := Lib.hid (BD.out.trans (hb2.mono BD.out.size))
       have X2 := Lib.hid (ExtsF.mono (C := w.heap.size) hx2 BD.out.size)
       have e6 := (hb2.cell (p := ⟨s, 6, none⟩) (World.block_lt_of_cell? _ _ k6)).trans k6
       have e8 := (hb2.cell (p := ⟨s, 8, none⟩) (World.block_lt_of_cell? _ _ k8)).trans k8
       clear hx2 hb2)
    | fail)
  all_goals (
    clear k6 k8 e6 e8
    go_wp2_with (fail)
    refine (HR.out _ B2.out).mono ?_; rintro e w3 ⟨rfl, rfl⟩
    have HSF := Lib.hid (HSD.out _ B2.out)
    go_wp2_with (fail)
    go_ret2
    first | exact ⟨A, c, rfl, X2.out, HSF.out, B2.out⟩ | exact ⟨A, ⟨c, rfl⟩, X2.out, HSF.out, B2.out⟩)
open Go.RowKit
open Ext (Ex Exts exV ExtsF textX)
set_option maxRecDepth 100000 in
theorem made_recorded (lun : Nat) (s : ByteArray) (w : World) :
    Calls Tryz.prog 81 #[.int .i64 (lun : Int), .string s] w fun e w' => e = .returned (chV lun (.record s)) ∧ Below w.heap.size w w' := by
  obtain ⟨h1, h2⟩ := one_alloc w #[.int .i64 0, .int .u8 0, .string ⟨#[]⟩] 148 _ rfl
  have HN := Lib.hid h1
  have HB := Lib.hid h2
  unfold chV
  clear h1 h2
  go_enter Tryz.func81, Tryz.ntmps81
  go_upto_region 1 with (fail)
  generalize w.alloc (.cells #[.int .i64 0, .int .u8 0, .string ⟨#[]⟩] 148) = w1 at *
  have k0 : w1.cell? ⟨w.heap.size, 0, none⟩ = some (.int .i64 0) := (HN.out.cell 0).trans rfl
  have k1 : w1.cell? ⟨w.heap.size, 1, none⟩ = some (.int .u8 0) := (HN.out.cell 1).trans rfl
  have k2 : w1.cell? ⟨w.heap.size, 2, none⟩ = some (.string ⟨#[]⟩) := (HN.out.cell 2).trans rfl
  have f0 := HN.out.free 0
  have f1 := HN.out.free 1
  have f2 := HN.out.free 2
  have HBE := Lib.hid (((HB.out.setCell (p := ⟨w.heap.size, 0, none⟩) (Nat.le_refl _) (.int .i64 (lun : Int))).setCell (p := ⟨w.heap.size, 1, none⟩) (Nat.le_refl _) (.int .u8 82)).setCell (p := ⟨w.heap.size, 2, none⟩) (Nat.le_refl _) (.string s))
  have HK := Lib.hid (((HN.out.put 0 (.int .i64 (lun : Int))).put 1 (.int .u8 82)).put 2 (.string s))
  go_wp2_with (fail)
  refine bodyPost_ret_by (results_cell_row rfl _ _ w.heap.size 148 #[.int .i64 (lun : Int), .int .u8 82, .string s] (0, 0) _ rfl HK.out Tryz.underlying148 rfl size118) rfl ?_
  exact ⟨rfl, HBE.out⟩
set_option maxRecDepth 100000 in
theorem made_wrote (lun : Nat) (A : Option Addr) (c : Nat) (q : List Ex) (w : World) (hq : Exts w A q) (hn : q.length ≤ 100000) (hg : Ext.goodB q = true) :
    Calls Tryz.prog 71 #[.int .i64 (lun : Int), .slice A q.length c] w fun e w' => e = .returned (chV lun (.wrote q)) ∧ Below w.heap.size w w' := by
  obtain ⟨h1, h2⟩ := one_alloc w #[.int .i64 0, .int .u8 0, .string ⟨#[]⟩] 148 _ rfl
  have HN := Lib.hid h1
  have HB := Lib.hid h2
  have HT := Lib.hid (fun v (hv : Below w.heap.size w v) => Ext.text_any A c q v (hq.below hv) hn)
  unfold Ext.textV at HT
  rw [if_pos hg] at HT
  unfold chV
  clear h1 h2 hq
  go_enter Tryz.func71, Tryz.ntmps71
  go_upto_region 1 with (fail)
  generalize w.alloc (.cells #[.int .i64 0, .int .u8 0, .string ⟨#[]⟩] 148) = w1 at *
  go_wp2_with (fail)
  refine (HT.out _ HB.out).mono ?_; rintro e w2 ⟨rfl, hb2⟩
  have HN2 := Lib.hid (HN.out.below hb2 HN.out.lt)
  have HB2 := Lib.hid (HB.out.trans (hb2.mono HB.out.size))
  clear HN HB HT hb2
  have k0 : w2.cell? ⟨w.heap.size, 0, none⟩ = some (.int .i64 0) := (HN2.out.cell 0).trans rfl
  have k1 : w2.cell? ⟨w.heap.size, 1, none⟩ = some (.int .u8 0) := (HN2.out.cell 1).trans rfl
  have k2 : w2.cell? ⟨w.heap.size, 2, none⟩ = some (.string ⟨#[]⟩) := (HN2.out.cell 2).trans rfl
  have f0 := HN2.out.free 0
  have f1 := HN2.out.free 1
  have f2 := HN2.out.free 2
  have HBE := Lib.hid (((HB2.out.setCell (p := ⟨w.heap.size, 0, none⟩) (Nat.le_refl _) (.int .i64 (lun : Int))).setCell (p := ⟨w.heap.size, 1, none⟩) (Nat.le_refl _) (.int .u8 87)).setCell (p := ⟨w.heap.size, 2, none⟩) (Nat.le_refl _) (.string (textX q)))
  have HK := Lib.hid (((HN2.out.put 0 (.int .i64 (lun : Int))).put 1 (.int .u8 87)).put 2 (.string (textX q)))
  go_wp2_with (fail)
  refine bodyPost_ret_by (results_cell_row rfl _ _ w.heap.size 148 #[.int .i64 (lun : Int), .int .u8 87, .string (textX q)] (0, 0) _ rfl HK.out Tryz.underlying148 rfl size118) rfl ?_
  exact ⟨rfl, HBE.out⟩
open Go.RowKit
open Ext (Ex Exts exV ExtsF textX)
/-- Ranges in memory. -/
def Rngs (w : World) (A : Option Addr) (l : List (Nat × Nat)) : Prop := 0 < l.length → ∃ b o, A = some ⟨b, o, none⟩ ∧ ∀ (j : Nat) (r : Nat × Nat), l[j]? = some r → w.cell? ⟨b, o + j * 2, none⟩ = some (.int .i64 (r.1 : Int)) ∧ w.cell? ⟨b, o + j * 2 + 1, none⟩ = some (.int .i64 (r.2 : Int))
theorem Rngs.below {w w' : World} {A : Option Addr} {l : List (Nat × Nat)} (h : Rngs w A l) (hb : Below w.heap.size w w') : Rngs w' A l := fun hn => by
  obtain ⟨b, o, e, h⟩ := h hn
  refine ⟨b, o, e, fun j r hr => ?_⟩
  obtain ⟨c0, c1⟩ := h j r hr
  exact ⟨(hb.cell (World.block_lt_of_cell? _ _ c0)).trans c0, (hb.cell (World.block_lt_of_cell? _ _ c1)).trans c1⟩
theorem rngB_app : ∀ a b : List (Nat × Nat), rngB (a ++ b) = rngB a ++ rngB b
  | [], b => by show rngB b = ⟨#[]⟩ ++ rngB b; apply Ext.bytes_ext; rw [Ext.app_list]; rfl
  | r :: a, b => by
    show putHi r.1 4 ++ putHi r.2 4 ++ rngB (a ++ b) = putHi r.1 4 ++ putHi r.2 4 ++ rngB a ++ rngB b
    rw [rngB_app a b]
    simp only [ByteArray.append_assoc]
theorem rngB_next {l : List (Nat × Nat)} {k : Nat} {r : Nat × Nat} (h : l[k]? = some r) : rngB (l.take k) ++ (putHi r.1 4 ++ putHi r.2 4) = rngB (l.take (k + 1)) := by
  rw [List.take_add_one, h, Option.toList_some, rngB_app, show rngB [r] = putHi r.1 4 ++ putHi r.2 4 from Ext.app_nil _]
set_option maxRecDepth 100000 in
set_option maxHeartbeats 2000000 in
theorem made_cleared (lun : Nat) (A : Option Addr) (c : Nat) (rs : List (Nat × Nat)) (w : World) (hq : Rngs w A rs) (hn : rs.length ≤ 100000) (hg : ∀ r ∈ rs, r.1 < 4294967296 ∧ r.2 < 4294967296) :
    Calls Tryz.prog 82 #[.int .i64 (lun : Int), .slice A rs.length c] w fun e w' => e = .returned (chV lun (.cleared rs)) ∧ Below w.heap.size w w' := by
  obtain ⟨h1, h2⟩ := one_alloc w #[.int .i64 0, .int .u8 0, .string ⟨#[]⟩] 148 _ rfl
  have HN := Lib.hid h1
  have HB := Lib.hid h2
  have HQ := Lib.hid hq
  have HG := Lib.hid hg
  unfold chV
  clear h1 h2 hq hg
  go_enter Tryz.func82, Tryz.ntmps82
  go_upto_region 1 with (fail)
  generalize w.alloc (.cells #[.int .i64 0, .int .u8 0, .string ⟨#[]⟩] 148) = w1 at *
  have HN1 := Lib.hid HN.out.lt
  go_wp2_with (fail)
  go_loopw [10, 5] (fun i s v => ∃ k : Nat, i = .int .i64 k ∧ k ≤ rs.length ∧ s = .string (rngB (rs.take k)) ∧ Blk v w.heap.size 148 #[.int .i64 0, .int .u8 0, .string ⟨#[]⟩] ∧ Below w.heap.size w v) (fun i _ _ => rs.length - (intOf i).toNat)
  case atStart => exact ⟨0, rfl, Nat.zero_le _, rfl, HN.out, HB.out⟩
  case round =>
    obtain ⟨k, rfl, hk, rfl, hbd, hbl⟩ := hrel
    have HBD := Lib.hid hbd; have HBL := Lib.hid hbl
    clear hbd hbl HN HB HN1
    generalize wr = W at *
    by_cases hlt : k < rs.length
    · have hki : (k : Int) < rs.length := by omega
      obtain ⟨b, o, rfl, hat⟩ := (HQ.out.below HBL.out) (by omega)
      obtain ⟨r, hr⟩ : ∃ r, rs[k]? = some r := ⟨_, List.getElem?_eq_getElem hlt⟩
      obtain ⟨c0, c1⟩ := hat k r hr
      obtain ⟨g1, g2⟩ := HG.out r (List.mem_of_getElem? hr)
      have HNX := Lib.hid (rngB_next hr)
      have hsz := rngB_size (rs.take k)
      rw [List.length_take, Nat.min_eq_left hk] at hsz
      obtain ⟨hnb, hb1⟩ := one_alloc W #[.int .i64 (r.1 : Int), .int .i64 (r.2 : Int)] 51 _ rfl
      obtain ⟨W1, hW1⟩ : ∃ W1, W1 = W.alloc (.cells #[.int .i64 (r.1 : Int), .int .i64 (r.2 : Int)] 51) := ⟨_, rfl⟩
      have HW1 := Lib.hid hW1
      rw [← hW1] at hb1 hnb
      have HNB := Lib.hid hnb
      have HBW := Lib.hid hb1
      clear hat hr hnb hb1 hW1
      go_upto_region 5 with (fail)
      rw [← HW1.out]
      have HBD1 := Lib.hid (HBD.out.below HBW.out HBD.out.lt)
      have HBL1 := Lib.hid (HBL.out.trans (HBW.out.mono HBL.out.size))
      have HC0 := Lib.hid (Below.refl W1.heap.size W1).drew
      have HWD := Lib.hid (fun (n : Nat) (hn : n < 4294967296) v => word_any n hn v)
      have HLC : Hid (∀ v, Below W1.heap.size W1 v → v.cell? ⟨W.heap.size, 0, none⟩ = some (.int .i64 (r.1 : Int)) ∧ v.cell? ⟨W.heap.size, 1, none⟩ = some (.int .i64 (r.2 : Int))) := Lib.hid fun v hv => by
        have k0 := HNB.out.cell 0
        have k1 := HNB.out.cell 1
        exact ⟨(hv.cell (World.block_lt_of_cell? _ _ k0)).trans k0, (hv.cell (World.block_lt_of_cell? _ _ k1)).trans k1⟩
      refine wp_region_class (fun v => Below W1.heap.size W1 v) (by kernel_rfl) (by kernel_rfl) HC0.out ?_
      go_big_quiet_want
      go_big_quiet_op
      first | go_big_quiet_on | (refine ⟨_, fun _ _ => rfl, ?_⟩; go_big_quiet_on)
      go_big_quiet_want
      go_big_quiet_op
      first | go_big_quiet_on | (refine ⟨_, fun _ _ => rfl, ?_⟩; go_big_quiet_on)
      go_big_quiet_want
      refine quiet_run (v := .int .i64 (r.1 : Int)) (fun v hv => by obtain ⟨k0, k1⟩ := HLC.out v hv; go_simp) ?_
      simp only [Act.put, List.setIfInBounds_toArray, List.set_cons_zero, List.set_cons_succ]
      go_big_quiet_on
      go_big_quiet_want
      refine quiet_call (f := 121) (args := #[.int .i64 (r.1 : Int)]) (fun v _ => by go_simp) (fun v hv => (HWD.out r.1 g1 v).mono (fun e w2 h => ⟨h.1, hv.trans (h.2.mono hv.size)⟩)) ?_
      simp only [Act.put, List.setIfInBounds_toArray, List.set_cons_zero, List.set_cons_succ]
      go_big_quiet_on
      go_big_quiet_want
      go_big_quiet_op
      first | go_big_quiet_on | (refine ⟨_, fun _ _ => rfl, ?_⟩; go_big_quiet_on)
      go_big_quiet_want
      refine quiet_run (v := .int .i64 (r.2 : Int)) (fun v hv => by obtain ⟨k0, k1⟩ := HLC.out v hv; go_simp) ?_
      simp only [Act.put, List.setIfInBounds_toArray, List.set_cons_zero, List.set_cons_succ]
      go_big_quiet_on
      go_big_quiet_want
      refine quiet_call (f := 121) (args := #[.int .i64 (r.2 : Int)]) (fun v _ => by go_simp) (fun v hv => (HWD.out r.2 g2 v).mono (fun e w2 h => ⟨h.1, hv.trans (h.2.mono hv.size)⟩)) ?_
      simp only [Act.put, List.setIfInBounds_toArray, List.set_cons_zero, List.set_cons_succ]
      go_big_quiet_on
      go_big_quiet_want
      refine quiet_run (v := .string (putHi r.1 4 ++ putHi r.2 4)) (fun v hv => by have p1 := putHi4' r.1; have p2 := putHi4' r.2; go_simp) ?_
      simp only [Act.put, List.setIfInBounds_toArray, List.set_cons_zero, List.set_cons_succ]
      go_big_quiet_on
      go_big_quiet_want
      refine quiet_run (v := .string (rngB (rs.take k) ++ (putHi r.1 4 ++ putHi r.2 4))) (fun v hv => by go_simp; rw [putHi4', putHi4']; omega) ?_
      simp only [Act.put, List.setIfInBounds_toArray, List.set_cons_zero, List.set_cons_succ]
      go_big_quiet_on
      go_big_quiet_want
      go_big_quiet_op
      first | go_big_quiet_on | (refine ⟨_, fun _ _ => rfl, ?_⟩; go_big_quiet_on)
      intro v hv
      have HD2 := Lib.hid (HBD1.out.below hv HBD1.out.lt)
      have HL2 := Lib.hid (HBL1.out.trans (hv.mono HBL1.out.size))
      clear hv HC0 HLC HWD
      have hwk : IntKind.i64.wrap ((k : Int) + 1) = ((k + 1 : Nat) : Int) := by rw [i64w _ (by omega)]; omega
      go_wp2_with (fail)
      exact ⟨⟨k + 1, rfl, hlt, by rw [HNX.out], HD2.out, HL2.out⟩, by simp only [intOf]; omega⟩
    · have hke : k = rs.length := by omega
      subst hke
      have hkk : ¬ (rs.length : Int) < rs.length := by omega
      rw [List.take_length]
      clear hlt hk
      have HD2 := HBD
      have k0 : W.cell? ⟨w.heap.size, 0, none⟩ = some (.int .i64 0) := (HD2.out.cell 0).trans rfl
      have k1 : W.cell? ⟨w.heap.size, 1, none⟩ = some (.int .u8 0) := (HD2.out.cell 1).trans rfl
      have k2 : W.cell? ⟨w.heap.size, 2, none⟩ = some (.string ⟨#[]⟩) := (HD2.out.cell 2).trans rfl
      have f0 := HD2.out.free 0
      have f1 := HD2.out.free 1
      have f2 := HD2.out.free 2
      have HBE := Lib.hid (((HBL.out.setCell (p := ⟨w.heap.size, 0, none⟩) (Nat.le_refl _) (.int .i64 (lun : Int))).setCell (p := ⟨w.heap.size, 1, none⟩) (Nat.le_refl _) (.int .u8 67)).setCell (p := ⟨w.heap.size, 2, none⟩) (Nat.le_refl _) (.string (rngB rs)))
      have HK := Lib.hid (((HD2.out.put 0 (.int .i64 (lun : Int))).put 1 (.int .u8 67)).put 2 (.string (rngB rs)))
      go_wp2_with (fail)
      refine bodyPost_ret_by (results_cell_row rfl _ _ w.heap.size 148 #[.int .i64 (lun : Int), .int .u8 67, .string (rngB rs)] (0, 0) _ rfl HK.out Tryz.underlying148 rfl size118) rfl ?_
      exact ⟨rfl, HBE.out⟩
open Go.RowKit
open Ext (Ex Exts exV ExtsF textX)
theorem note_wr (w : World) {S : Nat → Prop} {s p q n : Nat} {x : St} {j : Jn} {st : Sto} (h : SD w S s p q n x j st) (hb : st.bad = false) (b : Bool) :
    Calls Tryz.prog 73 #[.pointer (some ⟨s, 0, none⟩), .int .i64 (wrCode b)] w fun e w' => e = .returned (.int .i64 (wrCode b)) ∧ SOut S w s p q n x j ⟨st.l, st.f, st.ch, st.sf, !b⟩ w' := by
  obtain ⟨lv, sv, hk, hs⟩ := h.cells
  have hset := h.set 9 (.bool (!b)) ⟨st.l, st.f, st.ch, st.sf, !b⟩ (fun lv sv => rfl) rfl rfl
  rw [hb] at hk
  have k9 : w.cell? ⟨s, 9, none⟩ = some (.bool false) := (hk.cell 9).trans rfl
  have f9 := hk.free 9
  have H := Lib.hid hset
  have HO := Lib.hid ((Only.refl S w).setCell (p := ⟨s, 9, none⟩) (.inl hs) (.bool (!b)))
  clear h hb hk hset hs
  cases b
  · rw [show wrCode false = 41 from rfl]
    go_enter Tryz.func73, Tryz.ntmps73
    go_wp2_with (fail)
    go_ret
    exact ⟨rfl, S, H.out, HO.out, Grew.refl _ _⟩
  · rw [show wrCode true = 0 from rfl]
    go_enter Tryz.func73, Tryz.ntmps73
    go_wp2_with (fail)
    go_ret
    exact ⟨rfl, S, H.out, HO.out, Grew.refl _ _⟩
theorem sput_any (w : World) {S : Nat → Prop} {s p q n : Nat} {x : St} {j : Jn} {st : Sto} (h : SD w S s p q n x j st) (i m : Nat) (t : ByteArray) (hs : t.size = m * 512) (hi : i + m ≤ n) (hk : x.ops ≤ 1000000000000) :
    Calls Tryz.prog 123 #[.pointer (some ⟨p, 0, none⟩), .int .i64 (i : Int), .string t] w fun e w' => e = .returned (.int .i64 (wrCode (x.put i t m).2)) ∧ SOut S w s p q n (x.put i t m).1 j st w' := by
  obtain ⟨J, G, h1, h2, h3, h4, h5⟩ := h.both
  obtain ⟨F, H, hF, hG, hd, hs2, hs'⟩ := h1.both
  exact (put_any w hF i m t hs hi hk).mono fun e w' ⟨he, hv⟩ => ⟨he, SD.turn h2 h3 h4 h5 h.lt h.far (h1.turn hG hd hs2 hs' hv)⟩
theorem sflsh_any (w : World) {S : Nat → Prop} {s p q n : Nat} {x : St} {j : Jn} {st : Sto} (h : SD w S s p q n x j st) (hk : x.ops ≤ 1000000000000) :
    Calls Tryz.prog 124 #[.pointer (some ⟨p, 0, none⟩)] w fun e w' => e = .returned (.int .i64 (wrCode x.flsh.2)) ∧ SOut S w s p q n x.flsh.1 j st w' := by
  obtain ⟨J, G, h1, h2, h3, h4, h5⟩ := h.both
  obtain ⟨F, H, hF, hG, hd, hs2, hs'⟩ := h1.both
  exact (flush_any w hF hk).mono fun e w' ⟨he, hv⟩ => ⟨he, SD.turn h2 h3 h4 h5 h.lt h.far (h1.turn hG hd hs2 hs' hv)⟩
/-- The blocks are laid where the extents say. -/
def layX (x : St) (lba : Nat) (t : ByteArray) : List Ex → St × Bool
  | [] => x.flsh
  | e :: l => if (x.put e.a.toNat (t.extract ((e.l.toNat - lba) * 512) ((e.l.toNat - lba) * 512 + e.b.toNat * 512)) e.b.toNat).2 then layX (x.put e.a.toNat (t.extract ((e.l.toNat - lba) * 512) ((e.l.toNat - lba) * 512 + e.b.toNat * 512)) e.b.toNat).1 lba t l else ((x.put e.a.toNat (t.extract ((e.l.toNat - lba) * 512) ((e.l.toNat - lba) * 512 + e.b.toNat * 512)) e.b.toNat).1, false)
open Go.RowKit
open Ext (Ex Exts exV ExtsF textX)
def LyAt (w : World) (S : Nat → Prop) (s p q n : Nat) (x : St) (j : Jn) (st : Sto) (lba : Nat) (t : ByteArray) (l : List Ex) (i : Value) (v : World) : Prop :=
  ∃ (k : Nat) (S' : Nat → Prop) (y : St), i = .int .i64 k ∧ k ≤ l.length ∧ SD v S' s p q n y j st ∧ Only S w v ∧ Grew S w S' ∧ layX y lba t (l.drop k) = layX x lba t l ∧ y.ops + (l.length - k) * 4096 ≤ 1000000000000
theorem layX_cons (x : St) (lba : Nat) (t : ByteArray) (L B a : Nat) (l : List Ex) : layX x lba t (⟨L, B, a⟩ :: l) = if (x.put a (t.extract ((L - lba) * 512) ((L - lba) * 512 + B * 512)) B).2 then layX (x.put a (t.extract ((L - lba) * 512) ((L - lba) * 512 + B * 512)) B).1 lba t l else ((x.put a (t.extract ((L - lba) * 512) ((L - lba) * 512 + B * 512)) B).1, false) := rfl
set_option maxRecDepth 100000 in
set_option maxHeartbeats 2000000 in
theorem lay_any (w : World) {S : Nat → Prop} {s p q n : Nat} {x : St} {j : Jn} {st : Sto} (h : SD w S s p q n x j st) (hb : st.bad = false) (A : Option Addr) (c : Nat) (l : List Ex) (lba : Nat) (t : ByteArray) (he : Exts w A l) (hA : 0 < l.length → ∀ a, A = some a → ¬ S a.block) (hel : ∀ e ∈ l, e.Fits ∧ (lba : Int) ≤ e.l ∧ (e.l - lba + e.b) * 512 ≤ t.size ∧ e.a + e.b ≤ n) (ht : t.size ≤ 140737488355328) (hn : l.length ≤ 100000) (hk : x.ops + l.length * 4096 ≤ 1000000000000) :
    Calls Tryz.prog 69 #[.pointer (some ⟨s, 0, none⟩), .slice A l.length c, .int .i64 (lba : Int), .string t] w fun e w' => e = .returned (.int .i64 (wrCode (layX x lba t l).2)) ∧ SOut S w s p q n (layX x lba t l).1 j ⟨st.l, st.f, st.ch, st.sf, !(layX x lba t l).2⟩ w' := by
  have H := Lib.hid h; have HE := Lib.hid he; have HA := Lib.hid hA; have HEL := Lib.hid hel; have HBD := Lib.hid hb; have HK := Lib.hid hk
  have HT := Lib.hid ht
  clear h he hA hel hb hk ht
  go_enter Tryz.func69, Tryz.ntmps69
  go_wp2_with (fail)
  go_loopw [15] (fun i v => LyAt w S s p q n x j st lba t l i v) (fun i _ => l.length - (intOf i).toNat)
  case atStart => exact ⟨0, S, x, rfl, Nat.zero_le _, H.out, Only.refl _ _, Grew.refl _ _, by rw [List.drop_zero], HK.out⟩
  case round =>
    obtain ⟨k, S1, y, rfl, hk, hsd, ho, hg, hly, hops⟩ := hrel
    have HSD := Lib.hid hsd; have HO := Lib.hid ho; have HG := Lib.hid hg; have HLY := Lib.hid hly; have HOPS := Lib.hid hops
    clear hsd ho hg hly hops
    generalize wr = W at *
    obtain ⟨lv, sv, hkk, hs⟩ := HSD.out.cells
    by_cases hlt : k < l.length
    · have hki : (k : Int) < l.length := by omega
      have heW : Exts W A l := HE.out.kept fun hn a ha => HO.out.block a.block (HE.out.lt hn a ha) (HA.out hn a ha)
      obtain ⟨b, o, e, rfl, hat, wf, c0, c1, c2⟩ := heW.at_ hlt
      obtain ⟨hf, hl1, hsz, han⟩ := HEL.out e (List.mem_of_getElem? hat)
      unfold Ex.Fits at hf
      obtain ⟨el, eb, ea⟩ := e
      simp only at hf hl1 hsz han c0 c1 c2
      obtain ⟨L, rfl⟩ := Int.eq_ofNat_of_zero_le hf.1
      obtain ⟨B, rfl⟩ := Int.eq_ofNat_of_zero_le (show 0 ≤ eb by omega)
      obtain ⟨a, rfl⟩ := Int.eq_ofNat_of_zero_le hf.2.1
      have hdr : l.drop k = ⟨(L : Int), (B : Int), (a : Int)⟩ :: l.drop (k + 1) := by
        rw [List.drop_eq_getElem_cons hlt]
        rw [List.getElem?_eq_getElem hlt] at hat
        rw [Option.some.inj hat]
      have hly := HLY.out
      rw [hdr, layX_cons] at hly
      obtain ⟨Q, hQ⟩ : ∃ Q, L = lba + Q := ⟨L - lba, by omega⟩
      rw [show L - lba = Q by omega] at hly
      obtain ⟨D, hD⟩ : ∃ D, D = Q * 512 := ⟨_, rfl⟩
      obtain ⟨M, hM⟩ : ∃ M, M = B * 512 := ⟨_, rfl⟩
      obtain ⟨E, hE⟩ : ∃ E, E = D + M := ⟨_, rfl⟩
      rw [← hD, ← hM, ← hE] at hly
      have hT := HT.out
      have hw1 : IntKind.i64.wrap ((L : Int) - (lba : Int)) = (Q : Int) := by rw [i64w _ (by omega)]; omega
      have hw2 : IntKind.i64.wrap ((Q : Int) * 512) = (D : Int) := by rw [i64w _ (by omega)]; omega
      have hw3 : IntKind.i64.wrap ((B : Int) * 512) = (M : Int) := by rw [i64w _ (by omega)]; omega
      have hw4 : IntKind.i64.wrap ((D : Int) + (M : Int)) = (E : Int) := by rw [i64w _ (by omega)]; omega
      have hwk : IntKind.i64.wrap ((k : Int) + 1) = ((k + 1 : Nat) : Int) := by rw [i64w _ (by omega)]; omega
      have g0 : (D : Int) ≤ (E : Int) := by omega
      have g1 : (E : Int) ≤ (t.size : Int) := by omega
      have g2 : (0 : Int) ≤ (D : Int) := by omega
      have hxs : (t.extract D E).size = B * 512 := by rw [ByteArray.size_extract]; omega
      have hops := HOPS.out
      have hmul : (l.length - k) * 4096 = (l.length - (k + 1)) * 4096 + 4096 := by omega
      have hpo := put_ops y a B (t.extract D E)
      have HOP2 := Lib.hid (show (y.put a (t.extract D E) B).1.ops + (l.length - (k + 1)) * 4096 ≤ 1000000000000 by omega)
      have HPUT := Lib.hid (fun v (hv : Below W.heap.size W v) => sput_any v (HSD.out.below hv) a B (t.extract D E) hxs (by omega) (by omega))
      obtain ⟨u, hu⟩ : ∃ u, t.extract D E = u := ⟨_, rfl⟩
      rw [hu] at hly HOP2 HPUT
      obtain ⟨r, hr⟩ : ∃ r, y.put a u B = r := ⟨_, rfl⟩
      rw [hr] at hly HOP2 HPUT
      have HLY2 := Lib.hid hly
      obtain ⟨hnb, hb1⟩ := one_alloc W #[.int .i64 (L : Int), .int .i64 (B : Int), .int .i64 (a : Int)] 158 _ rfl
      obtain ⟨W1, hW1⟩ : ∃ W1, W1 = W.alloc (.cells #[.int .i64 (L : Int), .int .i64 (B : Int), .int .i64 (a : Int)] 158) := ⟨_, rfl⟩
      have HW1 := Lib.hid hW1
      rw [← hW1] at hb1 hnb
      have HNB := Lib.hid hnb
      have HBW := Lib.hid hb1
      clear hat hf hl1 hsz han wf hdr hly hops hmul hpo hxs hr hQ hD hM hE hT hnb hb1 hW1 heW
      go_upto_region 5 with (fail)
      rw [← HW1.out]
      have hs0 : W.cell? ⟨s, 0, none⟩ = some (.pointer (some ⟨p, 0, none⟩)) := (hkk.cell 0).trans rfl
      have k0 : W1.cell? ⟨s, 0, none⟩ = some (.pointer (some ⟨p, 0, none⟩)) := (HBW.out.cell (World.block_lt_of_cell? _ _ hs0)).trans hs0
      have k1 : W1.cell? ⟨W.heap.size, 1, none⟩ = some (.int .i64 (B : Int)) := (HNB.out.cell 1).trans rfl
      have k2 : W1.cell? ⟨W.heap.size, 2, none⟩ = some (.int .i64 (a : Int)) := (HNB.out.cell 2).trans rfl
      have BD := Lib.hid (HBW.out.drew)
      clear hs0 hkk HNB c0 c1 c2 HW1
      go_region_held3 (fun v => v.cell? ⟨s, 0, none⟩ = some (.pointer (some ⟨p, 0, none⟩)) ∧ v.cell? ⟨W.heap.size, 1, none⟩ = some (.int .i64 (B : Int)) ∧ v.cell? ⟨W.heap.size, 2, none⟩ = some (.int .i64 (a : Int))) (first | exact ⟨k0, k1, k2⟩ | exact ⟨e0, e1, e2⟩) (first
        | (go_at_call 123; refine (HPUT.out _ BD.out).mono ?_; rintro e w2 ⟨rfl, S2, hsd2, ho2, hg2⟩
           have hn1 : ¬ S1 W.heap.size := fun hh => absurd (HSD.out.lt _ hh) (Nat.lt_irrefl _)
           have e0 : w2.cell? ⟨s, 0, none⟩ = some (.pointer (some ⟨p, 0, none⟩)) := by obtain ⟨lv2, sv2, hk2, _⟩ := hsd2.cells; exact (hk2.cell 0).trans rfl
           have e1 := ho2.cell k1 hn1
           have e2 := ho2.cell k2 hn1
           clear hn1
           have HOv := HO.out.below BD.out
           have HSD2 := Lib.hid hsd2; have HO2 := Lib.hid (HOv.go HG.out ho2); have HG2 := Lib.hid (HG.out.trans hg2 HOv.size)
           clear HOv
           clear hsd2 ho2 hg2)
        | fail)
      all_goals (
        clear k0 k1 k2 e0 e1 e2 BD HPUT
        cases hrb : r.2 with
        | true =>
          rw [hrb, if_pos rfl] at HLY2
          rw [show wrCode true = 0 from rfl]
          clear hrb
          go_wp2_with (fail)
          exact ⟨⟨k + 1, S2, r.1, rfl, hlt, HSD2.out, HO2.out, HG2.out, HLY2.out, HOP2.out⟩, by simp only [intOf]; omega⟩
        | false =>
          rw [hrb, if_neg (by decide)] at HLY2
          have HN := Lib.hid (note_wr w2 HSD2.out HBD.out false)
          rw [show wrCode false = 41 from rfl] at HN ⊢
          clear hrb
          go_wp2_with (fail)
          refine HN.out.mono ?_; rintro e w3 ⟨rfl, hs3⟩
          have HS3 := Lib.hid (SOut.trans HO2.out HG2.out hs3)
          clear hs3
          go_wp2_with (fail)
          go_ret
          rw [← HLY2.out]
          exact ⟨rfl, HS3.out⟩)
    · have hke : k = l.length := by omega
      subst hke
      have hkk2 : ¬ (l.length : Int) < l.length := by omega
      have hly := HLY.out
      rw [List.drop_length] at hly
      have HLY2 := Lib.hid (show y.flsh = layX x lba t l from hly)
      have k0 : W.cell? ⟨s, 0, none⟩ = some (.pointer (some ⟨p, 0, none⟩)) := (hkk.cell 0).trans rfl
      have HFL := Lib.hid (sflsh_any W HSD.out (by have := HOPS.out; omega))
      obtain ⟨r, hr⟩ : ∃ r, y.flsh = r := ⟨_, rfl⟩
      rw [hr] at HLY2 HFL
      clear hkk hly hr hlt hk
      go_wp2_with (fail)
      refine HFL.out.mono ?_; rintro e w2 ⟨rfl, S2, hsd2, ho2, hg2⟩
      have HSD2 := Lib.hid hsd2; have HO2 := Lib.hid (HO.out.go HG.out ho2); have HG2 := Lib.hid (HG.out.trans hg2 HO.out.size)
      have HN := Lib.hid (note_wr w2 hsd2 HBD.out r.2)
      clear hsd2 ho2 hg2
      go_wp2_with (fail)
      refine HN.out.mono ?_; rintro e w3 ⟨rfl, hs3⟩
      have HS3 := Lib.hid (SOut.trans HO2.out HG2.out hs3)
      clear hs3
      go_wp2_with (fail)
      go_ret
      rw [← HLY2.out]
      exact ⟨rfl, HS3.out⟩
open Go.RowKit
open Ext (Ex Exts exV ExtsF textX)
/-- The first k units are told. -/
structure Told (l : List Tb) (k : Nat) (cs : Array Value) : Prop where
  size : cs.size = l.length * 2
  done : ∀ j t, j < k → l[j]? = some t → cs[j * 2]? = some (.int .i64 t.n) ∧ cs[j * 2 + 1]? = some (.string t.id)
theorem Told.step {l : List Tb} {k : Nat} {cs : Array Value} {t : Tb} (h : Told l k cs) (hk : k < l.length) (ht : l[k]? = some t) : Told l (k + 1) ((cs.setIfInBounds (k * 2) (.int .i64 t.n)).setIfInBounds (k * 2 + 1) (.string t.id)) := by
  have hz := h.size
  refine ⟨by simp [hz], fun j v hj hv => ?_⟩
  by_cases e : j = k
  · subst e
    rw [ht] at hv
    obtain rfl := Option.some.inj hv
    have a0 : j * 2 < cs.size := by omega
    have a1 : j * 2 + 1 < cs.size := by omega
    refine ⟨?_, ?_⟩ <;> simp [a0, a1]
  · obtain ⟨c0, c1⟩ := h.done j v (by omega) hv
    exact ⟨by rw [set_far (by omega), set_far (by omega)]; exact c0, by rw [set_far (by omega), set_far (by omega)]; exact c1⟩
theorem infoUn : (Tryz.prog.info? 27).map (fun i => (i.zero, i.size, i.bytes)) = some (some (.agg #[.int .i64 0, .string ⟨#[]⟩]), 2, 24) := by kernel_rfl
theorem make_uns (l : List Tb) (w : World) (hn : l.length ≤ 4096) : ∃ cs, (Instr.makeSlice 28 (.int .i64 (l.length : Nat)) (.int .i64 (l.length : Nat))).run Tryz.prog w = .ok (.slice (some ⟨w.heap.size, 0, none⟩) l.length l.length) (w.alloc (.cells cs 27)) ∧ Told l 0 cs := by
  obtain ⟨i0, hi0, hz0, hz1, hz2⟩ := info_parts infoUn
  have := run_make (P := Tryz.prog) w 28 27 i0 _ Tryz.underlying28 hi0 hz0 .i64 .i64 (l.length : Nat) (l.length : Nat) (by omega) (by omega) (by rw [hz2]; omega) (by omega)
  refine ⟨_, this, ?_, fun j _ hj => absurd hj (by omega)⟩
  rw [hz1]
  simp [madeCells]
set_option maxRecDepth 100000 in
set_option maxHeartbeats 2000000 in
theorem units_any (w : World) {S : Nat → Prop} {s p q n : Nat} {x : St} {j : Jn} {st : Sto} (h : Has w S s p q n x j st) (hn : st.l.length ≤ 8) (hid : ∀ t ∈ st.l, t.id.size ≤ 16) :
    Calls Tryz.prog 28 #[.pointer (some ⟨s, 0, none⟩)] w fun e w' => ∃ g, e = .returned (.slice (some ⟨g, 0, none⟩) st.l.length st.l.length) ∧ Uns w' (some ⟨g, 0, none⟩) (st.l.map fun t => (t.n, t.id)) ∧ SOut S w s p q n x j st w' ∧ w.heap.size ≤ g := by
  have HT := Lib.hid (tables_any w h)
  have HD := Lib.hid (fun v T (hh : SD v T s p q n x j st) => tables_done v hh)
  have HMK := Lib.hid (fun v => make_uns st.l v (by omega))
  have HID := Lib.hid hid
  have HKP := Lib.hid (fun v T (hh : SD v T s p q n x j st) v' (hb : Below v.heap.size v v') => hh.below hb)
  obtain ⟨l, hl⟩ : ∃ l, st.l = l := ⟨_, rfl⟩
  rw [hl] at HT HD HMK HID hn ⊢
  clear h hid hl
  go_enter Tryz.func28, Tryz.ntmps28
  go_wp2_with (fail)
  refine HT.out.mono ?_; rintro e w1 ⟨b, o, c, S1, rfl, hsd, htb, ho, hg⟩
  obtain ⟨cs, hmk, hto⟩ := HMK.out w1
  have HTO := Lib.hid hto; have HSD := Lib.hid hsd; have HO := Lib.hid ho; have HG := Lib.hid hg
  clear hto hsd htb ho hg HT
  go_wp2_with (fail)
  have HK0 := Lib.hid (Blk.new w1 27 cs)
  have HBA := Lib.hid ((Below.refl w1.heap.size w1).alloc (Nat.le_refl _) (.cells cs 27))
  clear hmk
  generalize w1.alloc (.cells cs 27) = w0 at *
  refine (HD.out w0 S1 (HKP.out _ _ HSD.out _ HBA.out)).mono ?_; rintro e w2 ⟨b, o, c, rfl, htb, rfl⟩
  have HTB := Lib.hid htb
  clear htb HD
  go_wp2_with (fail)
  go_loopw [13] (fun i v => ∃ (k : Nat) (cs : Array Value), i = .int .i64 k ∧ k ≤ l.length ∧ Blk v w1.heap.size 27 cs ∧ Told l k cs ∧ Below w1.heap.size w1 v ) (fun i _ => l.length - (intOf i).toNat)
  case atStart => exact ⟨0, cs, rfl, Nat.zero_le _, HK0.out, HTO.out, HBA.out⟩
  case round =>
    obtain ⟨k, cs, rfl, hk, hbk, hm, hb⟩ := hrel
    have HK := Lib.hid hbk; have HM := Lib.hid hm; have HB := Lib.hid hb
    clear hbk hm hb HK0 HTO
    generalize wr = W at *
    by_cases hlt : k < l.length
    · have hki : (k : Int) < l.length := by omega
      have htw : Tbs W S1 (some ⟨b, o, none⟩) l := HTB.out.kept fun i hi => (HB.out.block i (HSD.out.lt i hi)).trans (HBA.out.block i (HSD.out.lt i hi)).symm
      obtain ⟨b2, o2, t, E, ce, hbo, hat, c0, c1, c2, c3, _, _⟩ := htw.at_ hlt
      obtain ⟨rfl, rfl⟩ : b = b2 ∧ o = o2 := by simpa using hbo
      have HST := Lib.hid (HM.out.step hlt hat)
      have hz := HM.out.size
      have hti := HID.out t (List.mem_of_getElem? hat)
      obtain ⟨hnb, hb1⟩ := one_alloc W #[.int .i64 t.n, .string t.id, .string t.rc, .slice E t.ex.length ce] 140 _ rfl
      obtain ⟨W1, hW1⟩ : ∃ W1, W1 = W.alloc (.cells #[.int .i64 t.n, .string t.id, .string t.rc, .slice E t.ex.length ce] 140) := ⟨_, rfl⟩
      have HW1 := Lib.hid hW1
      rw [← hW1] at hb1 hnb
      have HNB := Lib.hid hnb
      have HBW := Lib.hid hb1
      have HKW := Lib.hid (HK.out.below hb1 HK.out.lt)
      have HCL := Lib.hid (fun v => clone_any t.id v (by omega))
      have hz2 : k * 2 + 1 < cs.size := by omega
      have hne : ¬ W.heap.size = w1.heap.size := by have := HK.out.lt; omega
      clear hat hnb hb1 hW1 htw hbo hz hti
      go_upto_region 5 with (fail)
      rw [← HW1.out]
      have k0 : W1.cell? ⟨W.heap.size, 0, none⟩ = some (.int .i64 t.n) := (HNB.out.cell 0).trans rfl
      have k1 : W1.cell? ⟨W.heap.size, 1, none⟩ = some (.string t.id) := (HNB.out.cell 1).trans rfl
      have BD := Lib.hid (HB.out.trans ((HBW.out.mono HB.out.size).drew))
      clear c0 c1 c2 c3 HNB HW1 HBW HK
      go_region_held3 (fun v => v.cell? ⟨W.heap.size, 0, none⟩ = some (.int .i64 t.n) ∧ v.cell? ⟨W.heap.size, 1, none⟩ = some (.string t.id)) (first | exact ⟨k0, k1⟩ | exact ⟨e0, e1⟩ | exact ⟨m0, m1⟩) (first
        | (go_at_call 83; refine (HCL.out _).mono ?_; rintro e w4 ⟨rfl, hb4⟩
           have e0 := (hb4.cell (p := ⟨W.heap.size, 0, none⟩) (World.block_lt_of_cell? _ _ k0)).trans k0
           have e1 := (hb4.cell (p := ⟨W.heap.size, 1, none⟩) (World.block_lt_of_cell? _ _ k1)).trans k1
           have HK4 := Lib.hid (HKW.out.drew.below hb4 HKW.out.drew.lt)
           have B4 := Lib.hid (BD.out.trans (hb4.mono BD.out.size))
           have d0 : w4.cell? ⟨w1.heap.size, k * 2, none⟩ = some cs[k * 2] := (HK4.out.cell _).trans (Array.getElem?_eq_getElem (by omega))
           have d1 : w4.cell? ⟨w1.heap.size, k * 2 + 1, none⟩ = some cs[k * 2 + 1] := (HK4.out.cell _).trans (Array.getElem?_eq_getElem (by omega))
           generalize cs[k * 2] = v0 at d0
           generalize cs[k * 2 + 1] = v1 at d1
           have f0 := HK4.out.free (k * 2)
           have f1 := HK4.out.free (k * 2 + 1)
           have HKA := Lib.hid ((HK4.out.put (k * 2) (.int .i64 t.n)).put (k * 2 + 1) (.string t.id))
           have HBB := Lib.hid ((B4.out.setCell (p := ⟨w1.heap.size, k * 2, none⟩) (Nat.le_refl _) (.int .i64 t.n)).setCell (p := ⟨w1.heap.size, k * 2 + 1, none⟩) (Nat.le_refl _) (.string t.id))
           have m0 := ((only_put w4 w1.heap.size (k * 2) (.int .i64 t.n)).put (k * 2 + 1) (.string t.id)).cell e0 hne
           have m1 := ((only_put w4 w1.heap.size (k * 2) (.int .i64 t.n)).put (k * 2 + 1) (.string t.id)).cell e1 hne
           clear hb4)
        | fail)
      all_goals (
        clear k0 k1 e0 e1 m0 m1 d0 d1 f0 f1 HK4 B4
        go_wp2_with (fail)
        go_roundw
        case rel => exact ⟨k + 1, _, by go_num, by omega, HKA.out, HST.out, HBB.out⟩
        case measure => simp [intOf]; omega)
    · obtain rfl : k = l.length := by omega
      have hge : ¬ (l.length : Int) < l.length := by omega
      go_wp2_with (fail)
      go_ret
      refine ⟨w1.heap.size, rfl, fun _ => ⟨w1.heap.size, 0, rfl, fun j u hj => ?_⟩, SOut.trans HO.out HG.out (SOut.of_below HSD.out HB.out), HO.out.size⟩
      rw [List.getElem?_map] at hj
      cases hu : l[j]? with
      | none => rw [hu] at hj; cases hj
      | some u =>
        rw [hu] at hj
        obtain rfl := Option.some.inj hj
        have hjl := (List.getElem?_eq_some_iff.1 hu).1
        obtain ⟨a0, a1⟩ := HM.out.done j u hjl hu
        rw [Nat.zero_add]
        exact ⟨(HK.out.cell _).trans a0, (HK.out.cell _).trans a1⟩
end Go.Proofs.YtglfjlbhjaemgaaGreatDoor
