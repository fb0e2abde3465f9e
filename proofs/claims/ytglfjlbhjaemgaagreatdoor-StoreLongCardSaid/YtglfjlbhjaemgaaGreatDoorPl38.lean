/- store: what a change holds in memory on its way. store: a change that goes into the journal. store: a change for which the journal is begun anew. store: where blocks can be stored, behind a flush. -/
import Derived.Test.YtglfjlbhjaemgaaGreatDoorPl37
import Derived.Test.YtglfjlbhjaemgaaGreatDoorPl36
namespace Go.Proofs.YtglfjlbhjaemgaaGreatDoor
open Go.RowKit
open Ext (Ex Exts exV ExtsF textX)
/-- A change on its way: the journal, the store's old tables, the new ones, the places. -/
structure ChW (w0 v : World) (S J G M : Nat → Prop) (s p q n : Nat) (x : St) (j : Jn) (st : Sto) (f : Nat → Bool × Nat) (b o cc g g2 : Nat) (next : List Tb) : Prop where
  jd : JD v J p q n x j
  sb : Blk v s 137 (stC p q 1 0 (.slice (some ⟨b, o, none⟩) st.l.length cc) (.slice (some ⟨g, 0, none⟩) (n - 576) (n - 576)) st.ch st.sf st.bad)
  pl : Blk v g 260 (plC (n - 576) f)
  old : Tbs v (fun k => G k ∧ k ≠ s ∧ k ≠ g) (some ⟨b, o, none⟩) st.l
  new : Tbs v M (some ⟨g2, 0, none⟩) next
  gs : G s
  gg : G g
  jg : ∀ k, J k → ¬ G k
  jm : ∀ k, J k → ¬ M k
  ms : ∀ k, M k → k ≠ s ∧ k ≠ g
  jS : ∀ k, J k → S k ∨ w0.heap.size ≤ k
  gS : ∀ k, G k → S k
  mS : ∀ k, M k → S k ∨ w0.heap.size ≤ k
  gl : ∀ k, G k → k < v.heap.size
  ml : ∀ k, M k → k < v.heap.size
  only : Only S w0 v
  tabw : gTab < w0.heap.size
  far : ¬ S gTab
theorem ChW.below {w0 v v' : World} {S J G M : Nat → Prop} {s p q n : Nat} {x : St} {j : Jn} {st : Sto} {f : Nat → Bool × Nat} {b o cc g g2 : Nat} {next : List Tb} (h : ChW w0 v S J G M s p q n x j st f b o cc g g2 next) (hb : Below v.heap.size v v') : ChW w0 v' S J G M s p q n x j st f b o cc g g2 next :=
  ⟨h.jd.below hb, h.sb.below hb h.sb.lt, h.pl.below hb h.pl.lt, h.old.below hb, h.new.below hb, h.gs, h.gg, h.jg, h.jm, h.ms, h.jS, h.gS, h.mS, fun k hk => Nat.lt_of_lt_of_le (h.gl k hk) hb.size, fun k hk => Nat.lt_of_lt_of_le (h.ml k hk) hb.size, h.only.below hb, h.tabw, h.far⟩
theorem ChW.turn {w0 v v' : World} {S J G M : Nat → Prop} {s p q n : Nat} {x y : St} {j i : Jn} {st : Sto} {f : Nat → Bool × Nat} {b o cc g g2 : Nat} {next : List Tb} (h : ChW w0 v S J G M s p q n x j st f b o cc g g2 next) (ho : JOut J v p q n y i v') : ∃ J', ChW w0 v' S J' G M s p q n y i st f b o cc g g2 next ∧ Only J v v' ∧ Grew J v J' := by
  obtain ⟨J', h1, h2, h3⟩ := ho
  have hG : ∀ k, G k → ¬ J k := fun k hk hj => h.jg k hj hk
  have hM : ∀ k, M k → ¬ J k := fun k hk hj => h.jm k hj hk
  refine ⟨J', ⟨h1, h.sb.only h2 (hG _ h.gs), h.pl.only h2 (hG _ h.gg), h.old.kept (fun k hk => h2.block k (h.gl k hk.1) (hG k hk.1)), h.new.kept (fun k hk => h2.block k (h.ml k hk) (hM k hk)), h.gs, h.gg, fun k hk hg => ?_, fun k hk hm => ?_, h.ms, fun k hk => ?_, h.gS, h.mS, fun k hk => Nat.lt_of_lt_of_le (h.gl k hk) h2.size, fun k hk => Nat.lt_of_lt_of_le (h.ml k hk) h2.size, h.only.trans h2 h.jS, h.tabw, h.far⟩, h2, h3⟩
  · rcases h3 k hk with hk | hk
    · exact h.jg k hk hg
    · have := h.gl k hg; omega
  · rcases h3 k hk with hk | hk
    · exact h.jm k hk hm
    · have := h.ml k hm; omega
  · rcases h3 k hk with hk | hk
    · exact h.jS k hk
    · have := h.only.size; exact .inr (by omega)
theorem ChW.place {w0 v v' : World} {S J G M : Nat → Prop} {s p q n : Nat} {x : St} {j : Jn} {st : Sto} {f f' : Nat → Bool × Nat} {b o cc g g2 : Nat} {next : List Tb} (h : ChW w0 v S J G M s p q n x j st f b o cc g g2 next) (hp : Blk v' g 260 (plC (n - 576) f')) (ho : Only (fun k => k = g) v v') : ChW w0 v' S J G M s p q n x j st f' b o cc g g2 next := by
  have hsg : s ≠ g := h.sb.apart h.pl (by decide)
  have hgt : ¬ gTab = g := fun e => h.far (by rw [e]; exact h.gS _ h.gg)
  exact ⟨h.jd.keep ho (fun k hk e => h.jg k hk (by have e : k = g := e; rw [e]; exact h.gg)) hgt, h.sb.only ho hsg, hp, h.old.kept (fun k hk => ho.block k (h.gl k hk.1) hk.2.2), h.new.kept (fun k hk => ho.block k (h.ml k hk) (h.ms k hk).2), h.gs, h.gg, h.jg, h.jm, h.ms, h.jS, h.gS, h.mS, fun k hk => Nat.lt_of_lt_of_le (h.gl k hk) ho.size, fun k hk => Nat.lt_of_lt_of_le (h.ml k hk) ho.size, h.only.trans ho (fun k e => .inl (by have e : k = g := e; rw [e]; exact h.gS _ h.gg)), h.tabw, h.far⟩
theorem ChW.done {w0 v : World} {S J G M : Nat → Prop} {s p q n : Nat} {x : St} {j : Jn} {st : Sto} {f : Nat → Bool × Nat} {b o cc g g2 c2 : Nat} {next : List Tb} (h : ChW w0 v S J G M s p q n x j st f b o cc g g2 next) : SOut S w0 s p q n x j ⟨next, f, st.ch, st.sf, st.bad⟩ (v.setCell ⟨s, 5, none⟩ (.slice (some ⟨g2, 0, none⟩) next.length c2)) := by
  have hsg : s ≠ g := h.sb.apart h.pl (by decide)
  have ho := (Only.refl (fun k => k = s) v).setCell (p := ⟨s, 5, none⟩) (.inl rfl) (.slice (some ⟨g2, 0, none⟩) next.length c2)
  have hb1 := h.sb.put 5 (.slice (some ⟨g2, 0, none⟩) next.length c2)
  rw [stC_list] at hb1
  have hst : ¬ gTab = s := fun e => h.far (by rw [e]; exact h.gS _ h.gs)
  have hjd := h.jd.keep ho (fun k hk e => h.jg k hk (by have e : k = s := e; rw [e]; exact h.gs)) hst
  refine ⟨fun k => J k ∨ G k ∨ M k, ⟨⟨J, fun k => G k ∨ M k, hjd, ⟨g2, 0, c2, g, hb1, h.pl.far (Ne.symm hsg) _, (h.new.kept (fun k hk => Below.heap_setCell _ _ _ _ (h.ms k hk).1)).mono (fun k hk => ⟨.inr hk, h.ms k hk⟩), .inl h.gs, .inl h.gg⟩, fun k hk hh => hh.elim (h.jg k hk) (h.jm k hk), fun k hk => .inl hk, fun k hk => .inr hk⟩, fun k hk => ?_, fun hk => ?_⟩, h.only.setCell (p := ⟨s, 5, none⟩) (.inl (h.gS _ h.gs)) _, fun k hk => ?_⟩
  · have hz : (v.setCell ⟨s, 5, none⟩ (.slice (some ⟨g2, 0, none⟩) next.length c2)).heap.size = v.heap.size := by simp
    rw [hz]
    rcases hk with hk | hk | hk
    · exact h.jd.lt k hk
    · exact h.gl k hk
    · exact h.ml k hk
  · have h1 := h.tabw
    rcases hk with hk | hk | hk
    · exact h.jd.far hk
    · exact h.far (h.gS _ hk)
    · rcases h.mS _ hk with hk | hk
      · exact h.far hk
      · omega
  · rcases hk with hk | hk | hk
    · exact h.jS k hk
    · exact .inl (h.gS k hk)
    · exact h.mS k hk
/-- The extents of a unit, in its old table and in its new one. -/
theorem ChW.olds {w0 v : World} {S J G M : Nat → Prop} {s p q n : Nat} {x : St} {j : Jn} {st : Sto} {f : Nat → Bool × Nat} {b o cc g g2 lun : Nat} {next : List Tb} {t : Tb} (h : ChW w0 v S J G M s p q n x j st f b o cc g g2 next) (ht : st.l[lun]? = some t) : ∃ E ce, v.cell? ⟨b, o + lun * 4 + 3, none⟩ = some (.slice E t.ex.length ce) ∧ Exts v E t.ex ∧ (∀ a, E = some a → 0 < t.ex.length → a.block ≠ g) ∧ ¬ b = g := by
  obtain ⟨b', o', t', E, ce, e0, hat, c0, c1, c2, c3, he, hb, hel⟩ := h.old.at_ (List.getElem?_eq_some_iff.1 ht).1
  have := Option.some.inj e0
  injection this with x1 x2 _
  subst x1 x2
  rw [ht] at hat
  obtain rfl := Option.some.inj hat
  exact ⟨E, ce, c3, he, fun a ha hn => (hel a ha hn).2.2, hb.2.2⟩
theorem ChW.news {w0 v : World} {S J G M : Nat → Prop} {s p q n : Nat} {x : St} {j : Jn} {st : Sto} {f : Nat → Bool × Nat} {b o cc g g2 lun : Nat} {next : List Tb} {u : Tb} (h : ChW w0 v S J G M s p q n x j st f b o cc g g2 next) (ht : next[lun]? = some u) : ∃ E ce, v.cell? ⟨g2, lun * 4 + 3, none⟩ = some (.slice E u.ex.length ce) ∧ Exts v E u.ex ∧ (∀ a, E = some a → 0 < u.ex.length → a.block ≠ g) ∧ ¬ g2 = g := by
  obtain ⟨b', o', t', E, ce, e0, hat, c0, c1, c2, c3, he, hb, hel⟩ := h.new.at_ (List.getElem?_eq_some_iff.1 ht).1
  have := Option.some.inj e0
  injection this with x1 x2 _
  subst x1 x2
  rw [ht] at hat
  obtain rfl := Option.some.inj hat
  exact ⟨E, ce, by rw [Nat.zero_add] at c3; exact c3, he, fun a ha hn => (h.ms _ (hel a ha hn)).2, (h.ms _ hb).2⟩
/-- The beginning: the store's own memory, and the new tables. -/
theorem ChW.of {w0 w1 w2 : World} {S J G : Nat → Prop} {s p q n : Nat} {x : St} {j : Jn} {st : Sto} {b o cc g g2 : Nat} {next : List Tb} (hjd : JD w1 J p q n x j) (hb : Blk w1 s 137 (stC p q 1 0 (.slice (some ⟨b, o, none⟩) st.l.length cc) (.slice (some ⟨g, 0, none⟩) (n - 576) (n - 576)) st.ch st.sf st.bad)) (hg : Blk w1 g 260 (plC (n - 576) st.f)) (ht : Tbs w1 (fun k => G k ∧ k ≠ s ∧ k ≠ g) (some ⟨b, o, none⟩) st.l) (hGs : G s) (hGg : G g) (hjg : ∀ k, J k → ¬ G k) (hjS : ∀ k, J k → S k) (hgS : ∀ k, G k → S k) (hlt : ∀ k, S k → k < w0.heap.size) (hfar : ¬ S gTab) (htw : gTab < w0.heap.size) (ho : Only S w0 w1) (hb2 : Below w1.heap.size w1 w2) (hn : Tbs w2 (fun k => (G k ∧ k ≠ s ∧ k ≠ g) ∨ w1.heap.size ≤ k) (some ⟨g2, 0, none⟩) next) :
    ChW w0 w2 S J G (fun k => ((G k ∧ k ≠ s ∧ k ≠ g) ∨ w1.heap.size ≤ k) ∧ k < w2.heap.size) s p q n x j st st.f b o cc g g2 next := by
  have hz := ho.size
  refine ⟨hjd.below hb2, hb.below hb2 hb.lt, hg.below hb2 hg.lt, ht.below hb2, hn.lt, hGs, hGg, hjg, fun k hk hm => ?_, fun k hk => ?_, fun k hk => .inl (hjS k hk), hgS, fun k hk => ?_, fun k hk => ?_, fun k hk => hk.2, ho.below hb2, htw, hfar⟩
  · rcases hm.1 with hm | hm
    · exact hjg k hk hm.1
    · have := hlt k (hjS k hk); omega
  · rcases hk.1 with hk | hk
    · exact hk.2
    · have h1 := hlt s (hgS s hGs)
      have h2 := hlt g (hgS g hGg)
      exact ⟨by omega, by omega⟩
  · rcases hk.1 with hk | hk
    · exact .inl (hgS k hk.1)
    · exact .inr (by omega)
  · exact Nat.lt_of_lt_of_le (hlt k (hgS k hk)) (Nat.le_trans hz hb2.size)
open Go.RowKit
open Ext (Ex Exts exV ExtsF textX)
set_option maxRecDepth 100000 in
set_option maxHeartbeats 4000000 in
theorem change_ok (w : World) {S : Nat → Prop} {s p q n : Nat} {x : St} {j : Jn} {st : Sto} (h : SD w S s p q n x j st) (hb : st.bad = false) (hd : x.down = false) (lun : Nat) (t : Tb) (ht : st.l[lun]? = some t) (c : Chg) (hc : c.Ok t.n) (ho : ∀ t ∈ st.l, t.Ok) (hn : st.l.length ≤ 8) (hch : st.ch ≤ 1000000000000) (hf : j.Fits n) (hx : x.ops ≤ 10000000000) (hjn : j.num ≤ 10000000000) (hn8 : n ≤ 8192)
    (hfo : ∀ e ∈ t.ex, e.Fits ∧ 576 ≤ e.a ∧ e.a + e.b ≤ 576 + ((n - 576 : Nat) : Int)) (huo : UseOk (n - 576) (freeF st.f t.ex (st.ch + 1)) (c.ap t).ex)
    (hwy : j.why (chB lun c) j.room = 0) (hen : (j.enter x (chB lun c) j.half j.used (j.recs.length + 1)).2 = true) :
    Calls Tryz.prog 70 #[.pointer (some ⟨s, 0, none⟩), chV lun c] w fun e w' => e = .returned (.int .i64 0) ∧ SOut S w s p q n (j.enter x (chB lun c) j.half j.used (j.recs.length + 1)).1 (j.more (chB lun c)) ⟨st.l.set lun (c.ap t), useF (freeF st.f t.ex (st.ch + 1)) (c.ap t).ex, st.ch + 1, st.sf, st.bad⟩ w' := by
  have hlun : lun < 8 := Nat.lt_of_lt_of_le (List.getElem?_eq_some_iff.1 ht).1 hn
  have hlul := (List.getElem?_eq_some_iff.1 ht).1
  have hbs := Chg.body_size hc
  obtain ⟨hnb, hb1⟩ := one_alloc w #[.int .i64 (lun : Int), .int .u8 (c.kind : Int), .string c.body] 148 _ rfl
  have hR := ready_ok _ (h.below hb1) hb hd
  have hsd0 := h.below hb1
  have htab := (Has.tab (.inl h)).pos
  obtain ⟨w0, hw0⟩ : ∃ w0, w0 = w.alloc (.cells #[.int .i64 (lun : Int), .int .u8 (c.kind : Int), .string c.body] 148) := ⟨_, rfl⟩
  rw [← hw0] at hnb hb1 hR hsd0
  have hnS : ¬ S w.heap.size := fun hh => absurd (h.lt _ hh) (Nat.lt_irrefl _)
  obtain ⟨J, G, h1, ⟨b, o, cc, g, hbk, hg, htb, hGs, hGg⟩, h3, h4, h5⟩ := hsd0.both
  have k7 : w0.cell? ⟨s, 7, none⟩ = some (.int .u64 (st.ch : Int)) := (hbk.cell 7).trans rfl
  have f7 := hbk.free 7
  have hs : S s := h5 s hGs
  have hsg : s ≠ g := hbk.apart hg (by decide)
  obtain ⟨ch1, hch1⟩ : ∃ m, m = st.ch + 1 := ⟨_, rfl⟩
  have HCH := Lib.hid hch1
  have hw64 : IntKind.u64.wrap ((st.ch : Int) + 1) = (ch1 : Int) := by rw [IntKind.wrap_u64]; omega
  clear hch1
  have hadd := run_call_add (P := Tryz.prog) (y := 1) Tryz.func166 (by kernel_rfl) (by kernel_rfl) (by kernel_rfl) .u64 (by kernel_rfl) k7 f7 (s := (ch1 : Int)) (by rw [← hw64]; rfl)
  have hbk1 := hbk.put 7 (.int .u64 (ch1 : Int))
  rw [stC_ch] at hbk1
  have hg1 := hg.far (p := ⟨s, 7, none⟩) (Ne.symm hsg) (.int .u64 (ch1 : Int))
  have ho7 := (Only.refl (fun k => k = s) w0).setCell (p := ⟨s, 7, none⟩) (.inl rfl) (.int .u64 (ch1 : Int))
  have hjd1 := h1.keep ho7 (fun k hk e => h3 k hk (by have e : k = s := e; rw [e]; exact hGs)) (fun e => h.far (by have e : gTab = s := e; rw [e]; exact hs))
  have htb1 : Tbs (w0.setCell ⟨s, 7, none⟩ (.int .u64 (ch1 : Int))) (fun k => G k ∧ k ≠ s ∧ k ≠ g) (some ⟨b, o, none⟩) st.l := htb.kept (fun k hk => Below.heap_setCell _ _ _ _ hk.2.1)
  have HO1 := Lib.hid (((Only.of_below (S := S) hb1).setCell (p := ⟨s, 7, none⟩) (.inl hs) (.int .u64 (ch1 : Int))))
  have HW0 := Lib.hid hw0; have HNB := Lib.hid hnb; have HR := Lib.hid hR
  unfold chV
  go_enter Tryz.func70, Tryz.ntmps70
  go_wp2_with (fail)
  rw [← HW0.out]
  refine HR.out.mono ?_; rintro e w' ⟨rfl, rfl⟩
  clear HR hR hw0 hb1 hsd0 hnb hbk hg htb h1 ho7
  go_upto_region 5 with (go_at_call 125; go_in)
  have k5 : (w0.setCell ⟨s, 7, none⟩ (.int .u64 (ch1 : Int))).cell? ⟨s, 5, none⟩ = some (.slice (some ⟨b, o, none⟩) st.l.length cc) := (hbk1.cell 5).trans rfl
  have hsn : ¬ w.heap.size = s := fun hh => hnS (hh ▸ hs)
  have b0 := (only_put w0 s 7 (.int .u64 (ch1 : Int))).cell (p := ⟨w.heap.size, 0, none⟩) ((HNB.out.cell 0).trans rfl) hsn
  have b1 := (only_put w0 s 7 (.int .u64 (ch1 : Int))).cell (p := ⟨w.heap.size, 1, none⟩) ((HNB.out.cell 1).trans rfl) hsn
  have b2 := (only_put w0 s 7 (.int .u64 (ch1 : Int))).cell (p := ⟨w.heap.size, 2, none⟩) ((HNB.out.cell 2).trans rfl) hsn
  have HLT := Lib.hid h.lt
  clear hadd k7 f7 hw64 HW0
  generalize w0.setCell ⟨s, 7, none⟩ (.int .u64 (ch1 : Int)) = w1 at *
  have hz1 := HO1.out.size
  have HON : Hid (∀ v, Below w1.heap.size w1 v → Calls Tryz.prog 126 #[.agg #[.int .i64 (lun : Int), .int .u8 (c.kind : Int), .string c.body], .slice (some ⟨b, o, none⟩) st.l.length cc] v fun e w' => ∃ g2 c', e = .returned (.tuple #[.slice (some ⟨g2, 0, none⟩) st.l.length c', .bool true]) ∧ ChW w w' S J G (fun k => ((G k ∧ k ≠ s ∧ k ≠ g) ∨ w1.heap.size ≤ k) ∧ k < w'.heap.size) s p q n x j ⟨st.l, st.f, ch1, st.sf, st.bad⟩ st.f b o cc g g2 (st.l.set lun (c.ap t)) ∧ Below v.heap.size v w') := Lib.hid fun v hv => (on_any _ b o cc lun st.l t c v (htb1.below hv) (fun k hk => Nat.lt_of_lt_of_le (Nat.lt_of_lt_of_le (h.lt k (h5 k hk.1)) hz1) hv.size) ho hn ht hc).mono fun e w' ⟨g2, c', he, htn, hb, hgn⟩ => ⟨g2, c', he, ChW.of (st := ⟨st.l, st.f, ch1, st.sf, st.bad⟩) hjd1 hbk1 hg1 htb1 hGs hGg h3 h4 h5 h.lt h.far htab HO1.out (hv.trans (hb.mono hv.size)) (htn.mono (fun k hk => hk.elim .inl (fun h => .inr (Nat.le_trans hv.size h)))), hb⟩
  have HTX : Hid (∀ v, Calls Tryz.prog 128 #[.agg #[.int .i64 (lun : Int), .int .u8 (c.kind : Int), .string c.body]] v fun e w' => e = .returned (.string (chB lun c)) ∧ Below v.heap.size v w') := Lib.hid fun v => change_text lun c v hlun (by omega)
  have HAP := Lib.hid (fun v (J' : Nat → Prop) (hv : JD v J' p q n x j) => append_ok v hv hf (chB lun c) hwy (Nat.le_trans hx (by decide)) (Nat.le_trans hjn (by decide)) hen)
  obtain ⟨x1, hx1⟩ : ∃ y, (j.enter x (chB lun c) j.half j.used (j.recs.length + 1)).1 = y := ⟨_, rfl⟩
  obtain ⟨j1, hj1⟩ : ∃ y, j.more (chB lun c) = y := ⟨_, rfl⟩
  rw [hx1, hj1] at HAP
  have HX1 := Lib.hid hx1; have HJ1 := Lib.hid hj1
  clear hx1 hj1 hwy hen
  have HFO := Lib.hid hfo
  have HUO : Hid (UseOk (n - 576) (freeF st.f t.ex ch1) (c.ap t).ex) := Lib.hid (by rw [HCH.out]; exact huo)
  have HTO := Lib.hid (ho t (List.mem_of_getElem? ht))
  have HUK := Lib.hid (Chg.ok (ho t (List.mem_of_getElem? ht)) hc)
  have HN8 := Lib.hid hn8
  have HJS := Lib.hid h4
  clear hfo huo
  have BD := Lib.hid ((Below.refl w1.heap.size w1).drew)
  have HNS := Lib.hid hnS
  have HBF := Lib.hid hb
  obtain ⟨kd, hkd⟩ : ∃ k, (c.kind : Int) = k := ⟨_, rfl⟩
  obtain ⟨bd, hbd⟩ : ∃ k, c.body = k := ⟨_, rfl⟩
  obtain ⟨ll, hll⟩ : ∃ k, st.l.length = k := ⟨_, rfl⟩
  have HLL := Lib.hid hll
  rw [hkd, hbd] at HON HTX b1 b2
  rw [hll] at HON k5
  have hlul2 : lun < ll := by rw [← hll]; exact hlul
  have HHT := Lib.hid ht
  obtain ⟨nx, hnx⟩ : ∃ nx, st.l.set lun (c.ap t) = nx := ⟨_, rfl⟩
  have HNX := Lib.hid hnx
  rw [hnx] at HON
  have HNL := Lib.hid (show nx.length = ll by rw [← hnx, List.length_set]; exact hll)
  clear ht ho hn hc hf hx hjn hnS hb hd hch hlun hbs hs hsn hbk1 hg1 htb1 hjd1 h3 h4 h5 htab hlul hll hnx hGs hGg hsg HNB hz1 hn8
  go_region_held3 (fun v => v.cell? ⟨s, 5, none⟩ = some (.slice (some ⟨b, o, none⟩) ll cc) ∧ v.cell? ⟨w.heap.size, 0, none⟩ = some (.int .i64 (lun : Int)) ∧ v.cell? ⟨w.heap.size, 1, none⟩ = some (.int .u8 kd) ∧ v.cell? ⟨w.heap.size, 2, none⟩ = some (.string bd)) (first | exact ⟨k5, b0, b1, b2⟩ | exact ⟨e5, e0, e1, e2⟩) (first
    | (go_at_call 126; refine (HON.out _ BD.out).mono ?_; rintro e w2 ⟨g2, c2, rfl, hcw, hb2⟩
       have CW := Lib.hid hcw
       have e5 := (hb2.cell (p := ⟨s, 5, none⟩) (World.block_lt_of_cell? _ _ k5)).trans k5
       have e0 := (hb2.cell (p := ⟨w.heap.size, 0, none⟩) (World.block_lt_of_cell? _ _ b0)).trans b0
       have e1 := (hb2.cell (p := ⟨w.heap.size, 1, none⟩) (World.block_lt_of_cell? _ _ b1)).trans b1
       have e2 := (hb2.cell (p := ⟨w.heap.size, 2, none⟩) (World.block_lt_of_cell? _ _ b2)).trans b2
       clear hb2 hcw)
    | fail)
  all_goals (
    clear k5 b0 b1 b2 e5 HON BD
    go_upto_region 8 with (fail)
    have CWD := Lib.hid (CW.out.below (Below.refl w2.heap.size w2).drew)
    have m1 : w2.cell? ⟨s, 1, none⟩ = some (.pointer (some ⟨q, 0, none⟩)) := (CW.out.sb.cell 1).trans rfl
    go_region_held3 (fun v => v.cell? ⟨s, 1, none⟩ = some (.pointer (some ⟨q, 0, none⟩)) ∧ v.cell? ⟨w.heap.size, 0, none⟩ = some (.int .i64 (lun : Int)) ∧ v.cell? ⟨w.heap.size, 1, none⟩ = some (.int .u8 kd) ∧ v.cell? ⟨w.heap.size, 2, none⟩ = some (.string bd)) (first | exact ⟨m1, e0, e1, e2⟩ | exact ⟨n1, a0, a1, a2⟩ | exact ⟨q1, c0, c1, c2'⟩) (first
      | (go_at_call 128; refine (HTX.out _).mono ?_; rintro e w3 ⟨rfl, hb3⟩
         have CW3 := Lib.hid (CWD.out.below hb3)
         have n1 := (hb3.cell (p := ⟨s, 1, none⟩) (World.block_lt_of_cell? _ _ m1)).trans m1
         have a0 := (hb3.cell (p := ⟨w.heap.size, 0, none⟩) (World.block_lt_of_cell? _ _ e0)).trans e0
         have a1 := (hb3.cell (p := ⟨w.heap.size, 1, none⟩) (World.block_lt_of_cell? _ _ e1)).trans e1
         have a2 := (hb3.cell (p := ⟨w.heap.size, 2, none⟩) (World.block_lt_of_cell? _ _ e2)).trans e2
         clear hb3)
      | (go_at_call 127; refine (HAP.out _ J CW3.out.jd).mono ?_; rintro e w4 ⟨rfl, hjo⟩
         obtain ⟨J4, hcw4, hj2, hj3⟩ := CW3.out.turn hjo
         have q1 : w4.cell? ⟨s, 1, none⟩ = some (.pointer (some ⟨q, 0, none⟩)) := (hcw4.sb.cell 1).trans rfl
         have hnj : ¬ J w.heap.size := fun hh => HNS.out (HJS.out _ hh)
         have c0 := hj2.cell (p := ⟨w.heap.size, 0, none⟩) a0 hnj
         have c1 := hj2.cell (p := ⟨w.heap.size, 1, none⟩) a1 hnj
         have c2' := hj2.cell (p := ⟨w.heap.size, 2, none⟩) a2 hnj
         have CW4 := Lib.hid hcw4
         clear hcw4 hnj hj2 hj3 hjo)
      | fail)
    all_goals (
      clear m1 e0 e1 e2 n1 a0 a1 a2 q1
      obtain ⟨E4, ce4, k53, hE4, hne4, hbg4⟩ := CW4.out.olds HHT.out
      have FR := Lib.hid (fun v (hv : Below w4.heap.size w4 v) => free_any g (n - 576) ch1 st.f E4 ce4 t.ex v (CW4.out.pl.below hv CW4.out.pl.lt) (hE4.below hv) hne4 HFO.out (by have := HN8.out; omega) (by have := HTO.out.len; omega))
      have s6 : w4.cell? ⟨s, 6, none⟩ = some (.slice (some ⟨g, 0, none⟩) (n - 576 : Nat) (n - 576 : Nat)) := (CW4.out.sb.cell 6).trans rfl
      have s5 : w4.cell? ⟨s, 5, none⟩ = some (.slice (some ⟨b, o, none⟩) ll cc) := by rw [← HLL.out]; exact (CW4.out.sb.cell 5).trans rfl
      have BD4 := Lib.hid ((Below.refl w4.heap.size w4).drew)
      have HBG := Lib.hid hbg4
      have HBX : Hid (¬ w.heap.size = g) := Lib.hid fun e => HNS.out (by rw [e]; exact CW4.out.gS _ CW4.out.gg)
      have hlc : (lun : Int) < (ll : Int) := by omega
      have hl0 : (0 : Int) ≤ (lun : Int) := by omega
      obtain ⟨m, hm⟩ : ∃ m, n - 576 = m := ⟨_, rfl⟩
      have HM := Lib.hid hm
      rw [hm] at s6 FR
      clear hE4 hne4 hbg4 hm
      go_upto_region 13 with (fail)
      go_region_held3 (fun v => v.cell? ⟨s, 6, none⟩ = some (.slice (some ⟨g, 0, none⟩) m m) ∧ v.cell? ⟨s, 5, none⟩ = some (.slice (some ⟨b, o, none⟩) ll cc) ∧ v.cell? ⟨w.heap.size, 0, none⟩ = some (.int .i64 (lun : Int)) ∧ v.cell? ⟨b, o + lun * 4 + 3, none⟩ = some (.slice E4 t.ex.length ce4)) (first | exact ⟨s6, s5, c0, k53⟩ | exact ⟨s6', s5', d0, k53'⟩) (first
        | (go_at_call 129; refine (FR.out _ BD4.out).mono ?_; rintro e w5 ⟨rfl, hb5, ho5⟩
           have ho45 := (Only.of_below (S := fun k => k = g) BD4.out).trans ho5 (fun _ h => .inl h)
           have d0 := ho45.cell (p := ⟨w.heap.size, 0, none⟩) c0 HBX.out
           have k53' := ho45.cell (p := ⟨b, o + lun * 4 + 3, none⟩) k53 HBG.out
           have CW5 := Lib.hid (CW4.out.place (by rw [HM.out]; exact hb5) ho45)
           have s6' : w5.cell? ⟨s, 6, none⟩ = some (.slice (some ⟨g, 0, none⟩) m m) := by rw [← HM.out]; exact (CW5.out.sb.cell 6).trans rfl
           have s5' : w5.cell? ⟨s, 5, none⟩ = some (.slice (some ⟨b, o, none⟩) ll cc) := by rw [← HLL.out]; exact (CW5.out.sb.cell 5).trans rfl
           clear hb5 ho5 ho45)
        | fail)
      all_goals (
        obtain ⟨E5, ce5, k63, hE5, hne5, hbg5⟩ := CW5.out.news (u := c.ap t) (lun := lun) (by rw [← HNX.out]; exact List.getElem?_set_self (List.getElem?_eq_some_iff.1 HHT.out).1)
        have UR := Lib.hid (fun v (hv : Below w5.heap.size w5 v) => use_any g (n - 576) (freeF st.f t.ex ch1) E5 ce5 (c.ap t).ex v (CW5.out.pl.below hv CW5.out.pl.lt) (hE5.below hv) hne5 HUO.out (by have := HN8.out; omega) (by have := HUK.out.len; omega))
        have BD5 := Lib.hid ((Below.refl w5.heap.size w5).drew)
        have HBG5 := Lib.hid hbg5
        obtain ⟨ul, hul⟩ : ∃ k, (c.ap t).ex.length = k := ⟨_, rfl⟩
        rw [HM.out] at UR
        rw [hul] at k63 UR
        clear hE5 hne5 hbg5 hul s6 s5 k53 s5' k53' c0 FR BD4
        go_upto_region 14 with (fail)
        go_region_held3 (fun v => v.cell? ⟨s, 6, none⟩ = some (.slice (some ⟨g, 0, none⟩) m m) ∧ v.cell? ⟨w.heap.size, 0, none⟩ = some (.int .i64 (lun : Int)) ∧ v.cell? ⟨g2, lun * 4 + 3, none⟩ = some (.slice E5 ul ce5)) (first | exact ⟨s6', d0, k63⟩ | exact ⟨s66, d6, k66⟩) (first
          | (go_at_call 130; refine (UR.out _ BD5.out).mono ?_; rintro e w6 ⟨rfl, hb6, ho6⟩
             have ho56 := (Only.of_below (S := fun k => k = g) BD5.out).trans ho6 (fun _ h => .inl h)
             have d6 := ho56.cell (p := ⟨w.heap.size, 0, none⟩) d0 HBX.out
             have k66 := ho56.cell (p := ⟨g2, lun * 4 + 3, none⟩) k63 HBG5.out
             have CW6 := Lib.hid (CW5.out.place (by rw [HM.out]; exact hb6) ho56)
             have s66 : w6.cell? ⟨s, 6, none⟩ = some (.slice (some ⟨g, 0, none⟩) m m) := by rw [← HM.out]; exact (CW6.out.sb.cell 6).trans rfl
             clear hb6 ho6 ho56)
          | fail)
        all_goals (
          have s56 : w6.cell? ⟨s, 5, none⟩ = some (.slice (some ⟨b, o, none⟩) ll cc) := by rw [← HLL.out]; exact (CW6.out.sb.cell 5).trans rfl
          have f56 := CW6.out.sb.free 5
          have R := Lib.hid (CW6.out.done (c2 := c2))
          rw [HNL.out] at R
          clear s6' d0 k63 s66 d6 k66 UR BD5
          go_wp2_with (fail)
          go_ret
          rw [HNX.out, ← HCH.out, HX1.out, HJ1.out]
          exact ⟨rfl, R.out⟩))))
open Go.RowKit
open Ext (Ex Exts exV ExtsF textX)
set_option maxRecDepth 100000 in
set_option maxHeartbeats 4000000 in
theorem change_chk (w : World) {S : Nat → Prop} {s p q n : Nat} {x : St} {j : Jn} {st : Sto} (h : SD w S s p q n x j st) (hb : st.bad = false) (hd : x.down = false) (lun : Nat) (t : Tb) (ht : st.l[lun]? = some t) (c : Chg) (hc : c.Ok t.n) (ho : ∀ t ∈ st.l, t.Ok) (hn : st.l.length ≤ 8) (hch : st.ch ≤ 1000000000000) (hf : j.Fits n) (hx : x.ops ≤ 10000000000) (hjn : j.num ≤ 10000000000) (hn8 : n ≤ 8192)
    (hfo : ∀ e ∈ t.ex, e.Fits ∧ 576 ≤ e.a ∧ e.a + e.b ≤ 576 + ((n - 576 : Nat) : Int)) (huo : UseOk (n - 576) (freeF st.f t.ex (st.ch + 1)) (c.ap t).ex)
    (hwy : j.why (chB lun c) j.room = 60) (hwc : j.why (baseB (st.l.set lun (c.ap t))) j.size = 0) (hen : (j.enter x (baseB (st.l.set lun (c.ap t))) (1 - j.half) 0 0).2 = true) (hfl : (j.enter x (baseB (st.l.set lun (c.ap t))) (1 - j.half) 0 0).1.flsh.2 = true) :
    Calls Tryz.prog 70 #[.pointer (some ⟨s, 0, none⟩), chV lun c] w fun e w' => e = .returned (.int .i64 0) ∧ SOut S w s p q n (j.check x (baseB (st.l.set lun (c.ap t)))).1 (j.swap (baseB (st.l.set lun (c.ap t)))) ⟨st.l.set lun (c.ap t), useF (freeF st.f t.ex (st.ch + 1)) (c.ap t).ex, st.ch + 1, st.sf, st.bad⟩ w' := by
  have hlun : lun < 8 := Nat.lt_of_lt_of_le (List.getElem?_eq_some_iff.1 ht).1 hn
  have hlul := (List.getElem?_eq_some_iff.1 ht).1
  have hbs := Chg.body_size hc
  obtain ⟨hnb, hb1⟩ := one_alloc w #[.int .i64 (lun : Int), .int .u8 (c.kind : Int), .string c.body] 148 _ rfl
  have hR := ready_ok _ (h.below hb1) hb hd
  have hsd0 := h.below hb1
  have htab := (Has.tab (.inl h)).pos
  obtain ⟨w0, hw0⟩ : ∃ w0, w0 = w.alloc (.cells #[.int .i64 (lun : Int), .int .u8 (c.kind : Int), .string c.body] 148) := ⟨_, rfl⟩
  rw [← hw0] at hnb hb1 hR hsd0
  have hnS : ¬ S w.heap.size := fun hh => absurd (h.lt _ hh) (Nat.lt_irrefl _)
  obtain ⟨J, G, h1, ⟨b, o, cc, g, hbk, hg, htb, hGs, hGg⟩, h3, h4, h5⟩ := hsd0.both
  have k7 : w0.cell? ⟨s, 7, none⟩ = some (.int .u64 (st.ch : Int)) := (hbk.cell 7).trans rfl
  have f7 := hbk.free 7
  have hs : S s := h5 s hGs
  have hsg : s ≠ g := hbk.apart hg (by decide)
  obtain ⟨ch1, hch1⟩ : ∃ m, m = st.ch + 1 := ⟨_, rfl⟩
  have HCH := Lib.hid hch1
  have hw64 : IntKind.u64.wrap ((st.ch : Int) + 1) = (ch1 : Int) := by rw [IntKind.wrap_u64]; omega
  clear hch1
  have hadd := run_call_add (P := Tryz.prog) (y := 1) Tryz.func166 (by kernel_rfl) (by kernel_rfl) (by kernel_rfl) .u64 (by kernel_rfl) k7 f7 (s := (ch1 : Int)) (by rw [← hw64]; rfl)
  have hbk1 := hbk.put 7 (.int .u64 (ch1 : Int))
  rw [stC_ch] at hbk1
  have hg1 := hg.far (p := ⟨s, 7, none⟩) (Ne.symm hsg) (.int .u64 (ch1 : Int))
  have ho7 := (Only.refl (fun k => k = s) w0).setCell (p := ⟨s, 7, none⟩) (.inl rfl) (.int .u64 (ch1 : Int))
  have hjd1 := h1.keep ho7 (fun k hk e => h3 k hk (by have e : k = s := e; rw [e]; exact hGs)) (fun e => h.far (by have e : gTab = s := e; rw [e]; exact hs))
  have htb1 : Tbs (w0.setCell ⟨s, 7, none⟩ (.int .u64 (ch1 : Int))) (fun k => G k ∧ k ≠ s ∧ k ≠ g) (some ⟨b, o, none⟩) st.l := htb.kept (fun k hk => Below.heap_setCell _ _ _ _ hk.2.1)
  have HO1 := Lib.hid (((Only.of_below (S := S) hb1).setCell (p := ⟨s, 7, none⟩) (.inl hs) (.int .u64 (ch1 : Int))))
  have HW0 := Lib.hid hw0; have HNB := Lib.hid hnb; have HR := Lib.hid hR
  unfold chV
  go_enter Tryz.func70, Tryz.ntmps70
  go_wp2_with (fail)
  rw [← HW0.out]
  refine HR.out.mono ?_; rintro e w' ⟨rfl, rfl⟩
  clear HR hR hw0 hb1 hsd0 hnb hbk hg htb h1 ho7
  go_upto_region 5 with (go_at_call 125; go_in)
  have k5 : (w0.setCell ⟨s, 7, none⟩ (.int .u64 (ch1 : Int))).cell? ⟨s, 5, none⟩ = some (.slice (some ⟨b, o, none⟩) st.l.length cc) := (hbk1.cell 5).trans rfl
  have hsn : ¬ w.heap.size = s := fun hh => hnS (hh ▸ hs)
  have b0 := (only_put w0 s 7 (.int .u64 (ch1 : Int))).cell (p := ⟨w.heap.size, 0, none⟩) ((HNB.out.cell 0).trans rfl) hsn
  have b1 := (only_put w0 s 7 (.int .u64 (ch1 : Int))).cell (p := ⟨w.heap.size, 1, none⟩) ((HNB.out.cell 1).trans rfl) hsn
  have b2 := (only_put w0 s 7 (.int .u64 (ch1 : Int))).cell (p := ⟨w.heap.size, 2, none⟩) ((HNB.out.cell 2).trans rfl) hsn
  have HLT := Lib.hid h.lt
  clear hadd k7 f7 hw64 HW0
  generalize w0.setCell ⟨s, 7, none⟩ (.int .u64 (ch1 : Int)) = w1 at *
  have hz1 := HO1.out.size
  have HON : Hid (∀ v, Below w1.heap.size w1 v → Calls Tryz.prog 126 #[.agg #[.int .i64 (lun : Int), .int .u8 (c.kind : Int), .string c.body], .slice (some ⟨b, o, none⟩) st.l.length cc] v fun e w' => ∃ g2 c', e = .returned (.tuple #[.slice (some ⟨g2, 0, none⟩) st.l.length c', .bool true]) ∧ ChW w w' S J G (fun k => ((G k ∧ k ≠ s ∧ k ≠ g) ∨ w1.heap.size ≤ k) ∧ k < w'.heap.size) s p q n x j ⟨st.l, st.f, ch1, st.sf, st.bad⟩ st.f b o cc g g2 (st.l.set lun (c.ap t)) ∧ Below v.heap.size v w') := Lib.hid fun v hv => (on_any _ b o cc lun st.l t c v (htb1.below hv) (fun k hk => Nat.lt_of_lt_of_le (Nat.lt_of_lt_of_le (h.lt k (h5 k hk.1)) hz1) hv.size) ho hn ht hc).mono fun e w' ⟨g2, c', he, htn, hb, hgn⟩ => ⟨g2, c', he, ChW.of (st := ⟨st.l, st.f, ch1, st.sf, st.bad⟩) hjd1 hbk1 hg1 htb1 hGs hGg h3 h4 h5 h.lt h.far htab HO1.out (hv.trans (hb.mono hv.size)) (htn.mono (fun k hk => hk.elim .inl (fun h => .inr (Nat.le_trans hv.size h)))), hb⟩
  have HTX : Hid (∀ v, Calls Tryz.prog 128 #[.agg #[.int .i64 (lun : Int), .int .u8 (c.kind : Int), .string c.body]] v fun e w' => e = .returned (.string (chB lun c)) ∧ Below v.heap.size v w') := Lib.hid fun v => change_text lun c v hlun (by omega)
  have HAP : Hid (∀ v (J' : Nat → Prop), JD v J' p q n x j → Calls Tryz.prog 127 #[.pointer (some ⟨q, 0, none⟩), .string (chB lun c)] v fun e w' => e = .returned (.int .i64 60) ∧ JOut J' v p q n x j w') := Lib.hid (fun v J' hv => by
    have := append_why v hv hf (chB lun c) (by rw [hwy]; decide)
    rw [hwy] at this
    exact this)
  have hnok : ∀ u ∈ st.l.set lun (c.ap t), u.Ok := fun u hu => by
    rcases List.mem_or_eq_of_mem_set hu with hu | rfl
    · exact ho u hu
    · exact Chg.ok (ho t (List.mem_of_getElem? ht)) hc
  have hbt0 := fun (v : World) (M : Nat → Prop) (g2 c2 : Nat) (hv : Tbs v M (some ⟨g2, 0, none⟩) (st.l.set lun (c.ap t))) => base_text M (some ⟨g2, 0, none⟩) c2 (st.l.set lun (c.ap t)) v hv hnok (by rw [List.length_set]; exact hn)
  have hck0 := fun (v : World) (J' : Nat → Prop) (hv : JD v J' p q n x j) => check_ok v hv hf (baseB (st.l.set lun (c.ap t))) hwc (Nat.le_trans hx (by decide)) (Nat.le_trans hjn (by decide)) hen hfl
  rw [List.length_set] at hbt0
  obtain ⟨x1, hx1⟩ : ∃ y, (j.check x (baseB (st.l.set lun (c.ap t)))).1 = y := ⟨_, rfl⟩
  obtain ⟨j1, hj1⟩ : ∃ y, j.swap (baseB (st.l.set lun (c.ap t))) = y := ⟨_, rfl⟩
  rw [hx1, hj1] at hck0
  have HX1 := Lib.hid hx1; have HJ1 := Lib.hid hj1
  obtain ⟨bt, hbt⟩ : ∃ y, baseB (st.l.set lun (c.ap t)) = y := ⟨_, rfl⟩
  rw [hbt] at hck0 hbt0
  have HBT := Lib.hid hbt0; have HCK := Lib.hid hck0
  clear hx1 hj1 hwy hen hwc hfl hnok hbt0 hck0 hbt
  have HFO := Lib.hid hfo
  have HUO : Hid (UseOk (n - 576) (freeF st.f t.ex ch1) (c.ap t).ex) := Lib.hid (by rw [HCH.out]; exact huo)
  have HTO := Lib.hid (ho t (List.mem_of_getElem? ht))
  have HUK := Lib.hid (Chg.ok (ho t (List.mem_of_getElem? ht)) hc)
  have HN8 := Lib.hid hn8
  have HJS := Lib.hid h4
  clear hfo huo
  have BD := Lib.hid ((Below.refl w1.heap.size w1).drew)
  have HNS := Lib.hid hnS
  have HBF := Lib.hid hb
  obtain ⟨kd, hkd⟩ : ∃ k, (c.kind : Int) = k := ⟨_, rfl⟩
  obtain ⟨bd, hbd⟩ : ∃ k, c.body = k := ⟨_, rfl⟩
  obtain ⟨ll, hll⟩ : ∃ k, st.l.length = k := ⟨_, rfl⟩
  have HLL := Lib.hid hll
  rw [hkd, hbd] at HON HTX b1 b2
  rw [hll] at HON k5 HBT
  have hlul2 : lun < ll := by rw [← hll]; exact hlul
  have HHT := Lib.hid ht
  obtain ⟨nx, hnx⟩ : ∃ nx, st.l.set lun (c.ap t) = nx := ⟨_, rfl⟩
  have HNX := Lib.hid hnx
  rw [hnx] at HON HBT
  have HNL := Lib.hid (show nx.length = ll by rw [← hnx, List.length_set]; exact hll)
  clear ht ho hn hc hf hx hjn hnS hb hd hch hlun hbs hs hsn hbk1 hg1 htb1 hjd1 h3 h4 h5 htab hlul hll hnx hGs hGg hsg HNB hz1 hn8
  go_region_held3 (fun v => v.cell? ⟨s, 5, none⟩ = some (.slice (some ⟨b, o, none⟩) ll cc) ∧ v.cell? ⟨w.heap.size, 0, none⟩ = some (.int .i64 (lun : Int)) ∧ v.cell? ⟨w.heap.size, 1, none⟩ = some (.int .u8 kd) ∧ v.cell? ⟨w.heap.size, 2, none⟩ = some (.string bd)) (first | exact ⟨k5, b0, b1, b2⟩ | exact ⟨e5, e0, e1, e2⟩) (first
    | (go_at_call 126; refine (HON.out _ BD.out).mono ?_; rintro e w2 ⟨g2, c2, rfl, hcw, hb2⟩
       have CW := Lib.hid hcw
       have e5 := (hb2.cell (p := ⟨s, 5, none⟩) (World.block_lt_of_cell? _ _ k5)).trans k5
       have e0 := (hb2.cell (p := ⟨w.heap.size, 0, none⟩) (World.block_lt_of_cell? _ _ b0)).trans b0
       have e1 := (hb2.cell (p := ⟨w.heap.size, 1, none⟩) (World.block_lt_of_cell? _ _ b1)).trans b1
       have e2 := (hb2.cell (p := ⟨w.heap.size, 2, none⟩) (World.block_lt_of_cell? _ _ b2)).trans b2
       clear hb2 hcw)
    | fail)
  all_goals (
    clear k5 b0 b1 b2 e5 HON BD
    go_upto_region 8 with (fail)
    have CWD := Lib.hid (CW.out.below (Below.refl w2.heap.size w2).drew)
    have m1 : w2.cell? ⟨s, 1, none⟩ = some (.pointer (some ⟨q, 0, none⟩)) := (CW.out.sb.cell 1).trans rfl
    go_region_held3 (fun v => v.cell? ⟨s, 1, none⟩ = some (.pointer (some ⟨q, 0, none⟩)) ∧ v.cell? ⟨w.heap.size, 0, none⟩ = some (.int .i64 (lun : Int)) ∧ v.cell? ⟨w.heap.size, 1, none⟩ = some (.int .u8 kd) ∧ v.cell? ⟨w.heap.size, 2, none⟩ = some (.string bd)) (first | exact ⟨m1, e0, e1, e2⟩ | exact ⟨n1, a0, a1, a2⟩ | exact ⟨qa, ca, ca1, ca2⟩) (first
      | (go_at_call 128; refine (HTX.out _).mono ?_; rintro e w3 ⟨rfl, hb3⟩
         have CW3 := Lib.hid (CWD.out.below hb3)
         have n1 := (hb3.cell (p := ⟨s, 1, none⟩) (World.block_lt_of_cell? _ _ m1)).trans m1
         have a0 := (hb3.cell (p := ⟨w.heap.size, 0, none⟩) (World.block_lt_of_cell? _ _ e0)).trans e0
         have a1 := (hb3.cell (p := ⟨w.heap.size, 1, none⟩) (World.block_lt_of_cell? _ _ e1)).trans e1
         have a2 := (hb3.cell (p := ⟨w.heap.size, 2, none⟩) (World.block_lt_of_cell? _ _ e2)).trans e2
         clear hb3)
      | (go_at_call 127; refine (HAP.out _ J CW3.out.jd).mono ?_; rintro e wa ⟨rfl, hjo⟩
         obtain ⟨Ja, hcwa, hj2, hj3⟩ := CW3.out.turn hjo
         have qa : wa.cell? ⟨s, 1, none⟩ = some (.pointer (some ⟨q, 0, none⟩)) := (hcwa.sb.cell 1).trans rfl
         have hnj : ¬ J w.heap.size := fun hh => HNS.out (HJS.out _ hh)
         have HNJ : Hid (¬ Ja w.heap.size) := Lib.hid (fun hh => by
           rcases hj3 _ hh with hh | hh
           · exact hnj hh
           · have hlt : w.heap.size < w3.heap.size := World.block_lt_of_cell? _ _ a0
             omega)
         have ca := hj2.cell (p := ⟨w.heap.size, 0, none⟩) a0 hnj
         have ca1 := hj2.cell (p := ⟨w.heap.size, 1, none⟩) a1 hnj
         have ca2 := hj2.cell (p := ⟨w.heap.size, 2, none⟩) a2 hnj
         have CWa := Lib.hid hcwa
         clear hcwa hnj hj2 hj3 hjo)
      | fail)
    all_goals (
      clear m1 e0 e1 e2 n1 a0 a1 a2 ca1 ca2
      go_upto_region 10 with (fail)
      have CWE := Lib.hid (CWa.out.below (Below.refl wa.heap.size wa).drew)
      go_region_held3 (fun v => v.cell? ⟨s, 1, none⟩ = some (.pointer (some ⟨q, 0, none⟩)) ∧ v.cell? ⟨w.heap.size, 0, none⟩ = some (.int .i64 (lun : Int))) (first | exact ⟨qa, ca⟩ | exact ⟨qb, cb⟩ | exact ⟨q1, c0⟩) (first
        | (go_at_call 65; refine (HBT.out _ _ g2 c2 CWE.out.new).mono ?_; rintro e wb ⟨rfl, hbb⟩
           have CWb := Lib.hid (CWE.out.below hbb)
           have qb := (hbb.cell (p := ⟨s, 1, none⟩) (World.block_lt_of_cell? _ _ qa)).trans qa
           have cb := (hbb.cell (p := ⟨w.heap.size, 0, none⟩) (World.block_lt_of_cell? _ _ ca)).trans ca
           clear hbb)
        | (go_at_call 119; refine (HCK.out _ _ CWb.out.jd).mono ?_; rintro e w4 ⟨rfl, hjo⟩
           obtain ⟨J4, hcw4, hj2, hj3⟩ := CWb.out.turn hjo
           have q1 : w4.cell? ⟨s, 1, none⟩ = some (.pointer (some ⟨q, 0, none⟩)) := (hcw4.sb.cell 1).trans rfl
           have c0 := hj2.cell (p := ⟨w.heap.size, 0, none⟩) cb HNJ.out
           have CW4 := Lib.hid hcw4
           clear hcw4 hj2 hj3 hjo)
        | fail)
      all_goals (
      clear qa ca qb cb q1
      obtain ⟨E4, ce4, k53, hE4, hne4, hbg4⟩ := CW4.out.olds HHT.out
      have FR := Lib.hid (fun v (hv : Below w4.heap.size w4 v) => free_any g (n - 576) ch1 st.f E4 ce4 t.ex v (CW4.out.pl.below hv CW4.out.pl.lt) (hE4.below hv) hne4 HFO.out (by have := HN8.out; omega) (by have := HTO.out.len; omega))
      have s6 : w4.cell? ⟨s, 6, none⟩ = some (.slice (some ⟨g, 0, none⟩) (n - 576 : Nat) (n - 576 : Nat)) := (CW4.out.sb.cell 6).trans rfl
      have s5 : w4.cell? ⟨s, 5, none⟩ = some (.slice (some ⟨b, o, none⟩) ll cc) := by rw [← HLL.out]; exact (CW4.out.sb.cell 5).trans rfl
      have BD4 := Lib.hid ((Below.refl w4.heap.size w4).drew)
      have HBG := Lib.hid hbg4
      have HBX : Hid (¬ w.heap.size = g) := Lib.hid fun e => HNS.out (by rw [e]; exact CW4.out.gS _ CW4.out.gg)
      have hlc : (lun : Int) < (ll : Int) := by omega
      have hl0 : (0 : Int) ≤ (lun : Int) := by omega
      obtain ⟨m, hm⟩ : ∃ m, n - 576 = m := ⟨_, rfl⟩
      have HM := Lib.hid hm
      rw [hm] at s6 FR
      clear hE4 hne4 hbg4 hm
      go_upto_region 13 with (fail)
      go_region_held3 (fun v => v.cell? ⟨s, 6, none⟩ = some (.slice (some ⟨g, 0, none⟩) m m) ∧ v.cell? ⟨s, 5, none⟩ = some (.slice (some ⟨b, o, none⟩) ll cc) ∧ v.cell? ⟨w.heap.size, 0, none⟩ = some (.int .i64 (lun : Int)) ∧ v.cell? ⟨b, o + lun * 4 + 3, none⟩ = some (.slice E4 t.ex.length ce4)) (first | exact ⟨s6, s5, c0, k53⟩ | exact ⟨s6', s5', d0, k53'⟩) (first
        | (go_at_call 129; refine (FR.out _ BD4.out).mono ?_; rintro e w5 ⟨rfl, hb5, ho5⟩
           have ho45 := (Only.of_below (S := fun k => k = g) BD4.out).trans ho5 (fun _ h => .inl h)
           have d0 := ho45.cell (p := ⟨w.heap.size, 0, none⟩) c0 HBX.out
           have k53' := ho45.cell (p := ⟨b, o + lun * 4 + 3, none⟩) k53 HBG.out
           have CW5 := Lib.hid (CW4.out.place (by rw [HM.out]; exact hb5) ho45)
           have s6' : w5.cell? ⟨s, 6, none⟩ = some (.slice (some ⟨g, 0, none⟩) m m) := by rw [← HM.out]; exact (CW5.out.sb.cell 6).trans rfl
           have s5' : w5.cell? ⟨s, 5, none⟩ = some (.slice (some ⟨b, o, none⟩) ll cc) := by rw [← HLL.out]; exact (CW5.out.sb.cell 5).trans rfl
           clear hb5 ho5 ho45)
        | fail)
      all_goals (
        obtain ⟨E5, ce5, k63, hE5, hne5, hbg5⟩ := CW5.out.news (u := c.ap t) (lun := lun) (by rw [← HNX.out]; exact List.getElem?_set_self (List.getElem?_eq_some_iff.1 HHT.out).1)
        have UR := Lib.hid (fun v (hv : Below w5.heap.size w5 v) => use_any g (n - 576) (freeF st.f t.ex ch1) E5 ce5 (c.ap t).ex v (CW5.out.pl.below hv CW5.out.pl.lt) (hE5.below hv) hne5 HUO.out (by have := HN8.out; omega) (by have := HUK.out.len; omega))
        have BD5 := Lib.hid ((Below.refl w5.heap.size w5).drew)
        have HBG5 := Lib.hid hbg5
        obtain ⟨ul, hul⟩ : ∃ k, (c.ap t).ex.length = k := ⟨_, rfl⟩
        rw [HM.out] at UR
        rw [hul] at k63 UR
        clear hE5 hne5 hbg5 hul s6 s5 k53 s5' k53' c0 FR BD4
        go_upto_region 14 with (fail)
        go_region_held3 (fun v => v.cell? ⟨s, 6, none⟩ = some (.slice (some ⟨g, 0, none⟩) m m) ∧ v.cell? ⟨w.heap.size, 0, none⟩ = some (.int .i64 (lun : Int)) ∧ v.cell? ⟨g2, lun * 4 + 3, none⟩ = some (.slice E5 ul ce5)) (first | exact ⟨s6', d0, k63⟩ | exact ⟨s66, d6, k66⟩) (first
          | (go_at_call 130; refine (UR.out _ BD5.out).mono ?_; rintro e w6 ⟨rfl, hb6, ho6⟩
             have ho56 := (Only.of_below (S := fun k => k = g) BD5.out).trans ho6 (fun _ h => .inl h)
             have d6 := ho56.cell (p := ⟨w.heap.size, 0, none⟩) d0 HBX.out
             have k66 := ho56.cell (p := ⟨g2, lun * 4 + 3, none⟩) k63 HBG5.out
             have CW6 := Lib.hid (CW5.out.place (by rw [HM.out]; exact hb6) ho56)
             have s66 : w6.cell? ⟨s, 6, none⟩ = some (.slice (some ⟨g, 0, none⟩) m m) := by rw [← HM.out]; exact (CW6.out.sb.cell 6).trans rfl
             clear hb6 ho6 ho56)
          | fail)
        all_goals (
          have s56 : w6.cell? ⟨s, 5, none⟩ = some (.slice (some ⟨b, o, none⟩) ll cc) := by rw [← HLL.out]; exact (CW6.out.sb.cell 5).trans rfl
          have f56 := CW6.out.sb.free 5
          have R := Lib.hid (CW6.out.done (c2 := c2))
          rw [HNL.out] at R
          clear s6' d0 k63 s66 d6 k66 UR BD5
          go_wp2_with (fail)
          go_ret
          rw [HX1.out, HJ1.out, HNX.out, ← HCH.out]
          exact ⟨rfl, R.out⟩)))))
open Go.RowKit
open Ext (Ex Exts exV ExtsF)
set_option maxRecDepth 100000 in
set_option maxHeartbeats 2000000 in
/-- There is room behind a flush. -/
theorem room_late (w : World) {S : Nat → Prop} {s p q n : Nat} {x : St} {j : Jn} {st : Sto} (h : SD w S s p q n x j st) (hb : st.bad = false) (hd : x.down = false) (hu : j.unfit = false) (hx : x.ops ≤ 1000000000000) (hfl : x.flsh.2 = true) (lba blocks : Nat) (hl : lba + blocks ≤ 4096) (hn : n ≤ 8192) (hf : ¬ (fnd st.f st.sf lba blocks (n - 576)).2 = 0) (hf2 : (fnd st.f st.ch lba blocks (n - 576)).2 = 0) :
    Calls Tryz.prog 68 #[.pointer (some ⟨s, 0, none⟩), .int .i64 (lba : Int), .int .i64 (blocks : Int)] w fun e w' => ∃ A c, e = .returned (.tuple #[.slice A (fnd st.f st.ch lba blocks (n - 576)).1.length c, .int .i64 0]) ∧ ExtsF w.heap.size w' A (fnd st.f st.ch lba blocks (n - 576)).1 ∧ ∃ S1, SD w' S1 s p q n x.flsh.1 j ⟨st.l, st.f, st.ch, st.ch, st.bad⟩ ∧ Only S w w' ∧ Grew S w S1 ∧ (0 < (fnd st.f st.ch lba blocks (n - 576)).1.length → ∀ a, A = some a → ¬ S1 a.block) := by
  obtain ⟨lv, g, hk, hg, hs, hgs⟩ := h.space
  have k6 : w.cell? ⟨s, 6, none⟩ = some (.slice (some ⟨g, 0, none⟩) (n - 576) (n - 576)) := (hk.cell 6).trans rfl
  have k8 : w.cell? ⟨s, 8, none⟩ = some (.int .u64 (st.sf : Int)) := (hk.cell 8).trans rfl
  have HF := Lib.hid (fun v (hv : Below w.heap.size w v) => find_place g (n - 576) st.sf st.f lba blocks v (hg.below hv hg.lt) (by omega) (by omega) (by omega))
  rw [decide_eq_false hf] at HF
  have HFL := Lib.hid (fun v (hv : Below w.heap.size w v) => sflush_ok v (h.below hv) hb hd hu hx hfl)
  have BD := Lib.hid ((Below.refl w.heap.size w).drew)
  have HF2 := Lib.hid (fun (v1 : World) (S1 : Nat → Prop) (h1 : SD v1 S1 s p q n x.flsh.1 j ⟨st.l, st.f, st.ch, st.ch, st.bad⟩) => show ∃ g, v1.cell? ⟨s, 6, none⟩ = some (.slice (some ⟨g, 0, none⟩) (n - 576) (n - 576)) ∧ v1.cell? ⟨s, 8, none⟩ = some (.int .u64 (st.ch : Int)) ∧ ∀ v, Below v1.heap.size v1 v → Calls Tryz.prog 122 #[.slice (some ⟨g, 0, none⟩) (n - 576 : Nat) (n - 576 : Nat), .int .i64 (lba : Int), .int .i64 (blocks : Int), .int .u64 (st.ch : Int)] v fun e w' => ∃ A c, e = .returned (.tuple #[.slice A (fnd st.f st.ch lba blocks (n - 576)).1.length c, .bool true]) ∧ ExtsF v.heap.size w' A (fnd st.f st.ch lba blocks (n - 576)).1 ∧ Below v.heap.size v w' from by
    obtain ⟨lv, g, hk, hg, hs, hgs⟩ := h1.space
    refine ⟨g, (hk.cell 6).trans rfl, (hk.cell 8).trans rfl, fun v hv => ?_⟩
    have hh := find_place g (n - 576) st.ch st.f lba blocks v (hg.below hv hg.lt) (by omega) (by omega) (by omega)
    rw [decide_eq_true hf2] at hh
    exact hh)
  obtain ⟨m, hm⟩ : ∃ m, n - 576 = m := ⟨_, rfl⟩
  rw [hm] at k6 HF HF2 ⊢
  obtain ⟨r, hr⟩ : ∃ r, (fnd st.f st.sf lba blocks m).1 = r := ⟨_, rfl⟩
  rw [hr] at HF
  obtain ⟨r2, hr2⟩ : ∃ r, (fnd st.f st.ch lba blocks m).1 = r := ⟨_, rfl⟩
  rw [hr2] at HF2 ⊢
  clear h hb hd hk hg hs hgs hf hf2 hr hr2 hl hn hm hu hx hfl
  go_enter Tryz.func68, Tryz.ntmps68
  go_upto_region 1 with (fail)
  go_region_held3 (fun v => v.cell? ⟨s, 6, none⟩ = some (.slice (some ⟨g, 0, none⟩) m m) ∧ v.cell? ⟨s, 8, none⟩ = some (.int .u64 (st.sf : Int))) (first | exact ⟨k6, k8⟩ | exact ⟨e6, e8⟩) (first
    | (go_at_call 122; refine (HF.out _ BD.out).mono ?_; rintro e w2 ⟨A, c, rfl, hx2, hb2⟩
       have B2 := Lib.hid (BD.out.trans (hb2.mono BD.out.size))
       have e6 := (hb2.cell (p := ⟨s, 6, none⟩) (World.block_lt_of_cell? _ _ k6)).trans k6
       have e8 := (hb2.cell (p := ⟨s, 8, none⟩) (World.block_lt_of_cell? _ _ k8)).trans k8
       clear hx2 hb2)
    | fail)
  all_goals (
    clear k6 k8 e6 e8
    go_wp2_with (fail)
    refine (HFL.out _ B2.out).mono ?_; rintro e w3 ⟨rfl, S1, hs3, ho3, hg3⟩
    obtain ⟨g3, k6, k8, hf3⟩ := HF2.out w3 S1 hs3
    have HF3 := Lib.hid hf3
    have HS3 := Lib.hid hs3; have HO3 := Lib.hid (Only.trans (Only.of_below (S := S) B2.out) ho3 (fun _ h => .inl h)); have HG3 := Lib.hid (Grew.trans (Grew.refl S w) hg3 B2.out.size)
    have BD3 := Lib.hid ((Below.refl w3.heap.size w3).drew)
    have Z3 := Lib.hid (Nat.le_trans B2.out.size ho3.size)
    clear hs3 ho3 hg3 hf3
    go_upto_region 7 with (fail)
    go_region_held3 (fun v => v.cell? ⟨s, 6, none⟩ = some (.slice (some ⟨g3, 0, none⟩) m m) ∧ v.cell? ⟨s, 8, none⟩ = some (.int .u64 (st.ch : Int))) (first | exact ⟨k6, k8⟩ | exact ⟨e6, e8⟩) (first
      | (go_at_call 122; refine (HF3.out _ BD3.out).mono ?_; rintro e w4 ⟨A3, c3, rfl, hx4, hb4⟩
         have B4 := Lib.hid (BD3.out.trans (hb4.mono BD3.out.size))
         have X4 := Lib.hid (ExtsF.mono (C := w.heap.size) hx4 (Nat.le_trans Z3.out BD3.out.size))
         have X4N : Hid (0 < r2.length → ∀ a, A3 = some a → ¬ S1 a.block) := Lib.hid (fun hn a ha hh => by
           have h1 := HS3.out.lt _ hh
           have h2 := hx4.2 hn a ha
           have h3 := BD3.out.size
           omega)
         have e6 := (hb4.cell (p := ⟨s, 6, none⟩) (World.block_lt_of_cell? _ _ k6)).trans k6
         have e8 := (hb4.cell (p := ⟨s, 8, none⟩) (World.block_lt_of_cell? _ _ k8)).trans k8
         clear hx4 hb4)
      | fail)
    all_goals (
      clear k6 k8 e6 e8
      go_wp2_with (fail)
      go_ret2
      first | exact ⟨A3, c3, rfl, X4.out, S1, HS3.out.below B4.out, HO3.out.below B4.out, HG3.out, X4N.out⟩ | exact ⟨A3, ⟨c3, rfl⟩, X4.out, S1, HS3.out.below B4.out, HO3.out.below B4.out, HG3.out, X4N.out⟩))
end Go.Proofs.YtglfjlbhjaemgaaGreatDoor
