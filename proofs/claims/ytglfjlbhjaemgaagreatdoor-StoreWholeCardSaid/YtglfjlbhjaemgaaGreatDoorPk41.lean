/- store: the units that a store tells. store: what is answered where no such unit is. store: too long, too many, out of the unit. store: the places of blocks, and what stands there. -/
import Derived.Test.YtglfjlbhjaemgaaGreatDoorPk40
namespace Go.Proofs.YtglfjlbhjaemgaaGreatDoor
open Go.RowKit
open Ext (Ex Exts exV ExtsF textX)
/-- The first k units are told. -/
structure Told (l : List Tb) (k : Nat) (cs : Array Value) : Prop where
  size : cs.size = l.length * 2
  done : ∀ j t, j < k → l[j]? = some t → cs[j * 2]? = some (.int .i64 t.n) ∧ cs[j * 2 + 1]? = some (.string t.id)
theorem Told.step {l : List Tb} {k : Nat} {cs : Array Value} {t : Tb} (h : Told l k cs) (hk : k < l.length) (ht : l[k]? = some t) : Told l (k + 1) ((cs.setIfInBounds (k * 2) (.int .i64 t.n)).setIfInBounds (k * 2 + 1) (.string t.id)) := by
  have hz := h.size
  refine ⟨by simp [hz], fun j v hj hv => ?_⟩
  by_cases e : j = k
  · subst e
    rw [ht] at hv
    obtain rfl := Option.some.inj hv
    have a0 : j * 2 < cs.size := by omega
    have a1 : j * 2 + 1 < cs.size := by omega
    refine ⟨?_, ?_⟩ <;> simp [a0, a1]
  · obtain ⟨c0, c1⟩ := h.done j v (by omega) hv
    exact ⟨by rw [set_far (by omega), set_far (by omega)]; exact c0, by rw [set_far (by omega), set_far (by omega)]; exact c1⟩
theorem infoUn : (Tryz.prog.info? 27).map (fun i => (i.zero, i.size, i.bytes)) = some (some (.agg #[.int .i64 0, .string ⟨#[]⟩]), 2, 24) := by kernel_rfl
theorem make_uns (l : List Tb) (w : World) (hn : l.length ≤ 4096) : ∃ cs, (Instr.makeSlice 28 (.int .i64 (l.length : Nat)) (.int .i64 (l.length : Nat))).run Tryz.prog w = .ok (.slice (some ⟨w.heap.size, 0, none⟩) l.length l.length) (w.alloc (.cells cs 27)) ∧ Told l 0 cs := by
  obtain ⟨i0, hi0, hz0, hz1, hz2⟩ := info_parts infoUn
  have := run_make (P := Tryz.prog) w 28 27 i0 _ Tryz.underlying28 hi0 hz0 .i64 .i64 (l.length : Nat) (l.length : Nat) (by omega) (by omega) (by rw [hz2]; omega) (by omega)
  refine ⟨_, this, ?_, fun j _ hj => absurd hj (by omega)⟩
  rw [hz1]
  simp [madeCells]
set_option maxRecDepth 100000 in
set_option maxHeartbeats 2000000 in
theorem units_any (w : World) {S : Nat → Prop} {s p q n : Nat} {x : St} {j : Jn} {st : Sto} (h : Has w S s p q n x j st) (hn : st.l.length ≤ 8) (hid : ∀ t ∈ st.l, t.id.size ≤ 16) :
    Calls Tryz.prog 28 #[.pointer (some ⟨s, 0, none⟩)] w fun e w' => ∃ g, e = .returned (.slice (some ⟨g, 0, none⟩) st.l.length st.l.length) ∧ Uns w' (some ⟨g, 0, none⟩) (st.l.map fun t => (t.n, t.id)) ∧ SOut S w s p q n x j st w' ∧ w.heap.size ≤ g := by
  have HT := Lib.hid (tables_any w h)
  have HD := Lib.hid (fun v T (hh : SD v T s p q n x j st) => tables_done v hh)
  have HMK := Lib.hid (fun v => make_uns st.l v (by omega))
  have HID := Lib.hid hid
  have HKP := Lib.hid (fun v T (hh : SD v T s p q n x j st) v' (hb : Below v.heap.size v v') => hh.below hb)
  obtain ⟨l, hl⟩ : ∃ l, st.l = l := ⟨_, rfl⟩
  rw [hl] at HT HD HMK HID hn ⊢
  clear h hid hl
  go_enter Tryz.func28, Tryz.ntmps28
  go_wp2_with (fail)
  refine HT.out.mono ?_; rintro e w1 ⟨b, o, c, S1, rfl, hsd, htb, ho, hg⟩
  obtain ⟨cs, hmk, hto⟩ := HMK.out w1
  have HTO := Lib.hid hto; have HSD := Lib.hid hsd; have HO := Lib.hid ho; have HG := Lib.hid hg
  clear hto hsd htb ho hg HT
  go_wp2_with (fail)
  have HK0 := Lib.hid (Blk.new w1 27 cs)
  have HBA := Lib.hid ((Below.refl w1.heap.size w1).alloc (Nat.le_refl _) (.cells cs 27))
  clear hmk
  generalize w1.alloc (.cells cs 27) = w0 at *
  refine (HD.out w0 S1 (HKP.out _ _ HSD.out _ HBA.out)).mono ?_; rintro e w2 ⟨b, o, c, rfl, htb, rfl⟩
  have HTB := Lib.hid htb
  clear htb HD
  go_wp2_with (fail)
  go_loopw [13] (fun i v => ∃ (k : Nat) (cs : Array Value), i = .int .i64 k ∧ k ≤ l.length ∧ Blk v w1.heap.size 27 cs ∧ Told l k cs ∧ Below w1.heap.size w1 v ) (fun i _ => l.length - (intOf i).toNat)
  case atStart => exact ⟨0, cs, rfl, Nat.zero_le _, HK0.out, HTO.out, HBA.out⟩
  case round =>
    obtain ⟨k, cs, rfl, hk, hbk, hm, hb⟩ := hrel
    have HK := Lib.hid hbk; have HM := Lib.hid hm; have HB := Lib.hid hb
    clear hbk hm hb HK0 HTO
    generalize wr = W at *
    by_cases hlt : k < l.length
    · have hki : (k : Int) < l.length := by omega
      have htw : Tbs W S1 (some ⟨b, o, none⟩) l := HTB.out.kept fun i hi => (HB.out.block i (HSD.out.lt i hi)).trans (HBA.out.block i (HSD.out.lt i hi)).symm
      obtain ⟨b2, o2, t, E, ce, hbo, hat, c0, c1, c2, c3, _, _⟩ := htw.at_ hlt
      obtain ⟨rfl, rfl⟩ : b = b2 ∧ o = o2 := by simpa using hbo
      have HST := Lib.hid (HM.out.step hlt hat)
      have hz := HM.out.size
      have hti := HID.out t (List.mem_of_getElem? hat)
      obtain ⟨hnb, hb1⟩ := one_alloc W #[.int .i64 t.n, .string t.id, .string t.rc, .slice E t.ex.length ce] 140 _ rfl
      obtain ⟨W1, hW1⟩ : ∃ W1, W1 = W.alloc (.cells #[.int .i64 t.n, .string t.id, .string t.rc, .slice E t.ex.length ce] 140) := ⟨_, rfl⟩
      have HW1 := Lib.hid hW1
      rw [← hW1] at hb1 hnb
      have HNB := Lib.hid hnb
      have HBW := Lib.hid hb1
      have HKW := Lib.hid (HK.out.below hb1 HK.out.lt)
      have HCL := Lib.hid (fun v => clone_any t.id v (by omega))
      have hz2 : k * 2 + 1 < cs.size := by omega
      have hne : ¬ W.heap.size = w1.heap.size := by have := HK.out.lt; omega
      clear hat hnb hb1 hW1 htw hbo hz hti
      go_upto_region 5 with (fail)
      rw [← HW1.out]
      have k0 : W1.cell? ⟨W.heap.size, 0, none⟩ = some (.int .i64 t.n) := (HNB.out.cell 0).trans rfl
      have k1 : W1.cell? ⟨W.heap.size, 1, none⟩ = some (.string t.id) := (HNB.out.cell 1).trans rfl
      have BD := Lib.hid (HB.out.trans ((HBW.out.mono HB.out.size).drew))
      clear c0 c1 c2 c3 HNB HW1 HBW HK
      go_region_held3 (fun v => v.cell? ⟨W.heap.size, 0, none⟩ = some (.int .i64 t.n) ∧ v.cell? ⟨W.heap.size, 1, none⟩ = some (.string t.id)) (first | exact ⟨k0, k1⟩ | exact ⟨e0, e1⟩ | exact ⟨m0, m1⟩) (first
        | (go_at_call 83; refine (HCL.out _).mono ?_; rintro e w4 ⟨rfl, hb4⟩
           have e0 := (hb4.cell (p := ⟨W.heap.size, 0, none⟩) (World.block_lt_of_cell? _ _ k0)).trans k0
           have e1 := (hb4.cell (p := ⟨W.heap.size, 1, none⟩) (World.block_lt_of_cell? _ _ k1)).trans k1
           have HK4 := Lib.hid (HKW.out.drew.below hb4 HKW.out.drew.lt)
           have B4 := Lib.hid (BD.out.trans (hb4.mono BD.out.size))
           have d0 : w4.cell? ⟨w1.heap.size, k * 2, none⟩ = some cs[k * 2] := (HK4.out.cell _).trans (Array.getElem?_eq_getElem (by omega))
           have d1 : w4.cell? ⟨w1.heap.size, k * 2 + 1, none⟩ = some cs[k * 2 + 1] := (HK4.out.cell _).trans (Array.getElem?_eq_getElem (by omega))
           generalize cs[k * 2] = v0 at d0
           generalize cs[k * 2 + 1] = v1 at d1
           have f0 := HK4.out.free (k * 2)
           have f1 := HK4.out.free (k * 2 + 1)
           have HKA := Lib.hid ((HK4.out.put (k * 2) (.int .i64 t.n)).put (k * 2 + 1) (.string t.id))
           have HBB := Lib.hid ((B4.out.setCell (p := ⟨w1.heap.size, k * 2, none⟩) (Nat.le_refl _) (.int .i64 t.n)).setCell (p := ⟨w1.heap.size, k * 2 + 1, none⟩) (Nat.le_refl _) (.string t.id))
           have m0 := ((only_put w4 w1.heap.size (k * 2) (.int .i64 t.n)).put (k * 2 + 1) (.string t.id)).cell e0 hne
           have m1 := ((only_put w4 w1.heap.size (k * 2) (.int .i64 t.n)).put (k * 2 + 1) (.string t.id)).cell e1 hne
           clear hb4)
        | fail)
      all_goals (
        clear k0 k1 e0 e1 m0 m1 d0 d1 f0 f1 HK4 B4
        go_wp2_with (fail)
        go_roundw
        case rel => exact ⟨k + 1, _, by go_num, by omega, HKA.out, HST.out, HBB.out⟩
        case measure => simp [intOf]; omega)
    · obtain rfl : k = l.length := by omega
      have hge : ¬ (l.length : Int) < l.length := by omega
      go_wp2_with (fail)
      go_ret
      refine ⟨w1.heap.size, rfl, fun _ => ⟨w1.heap.size, 0, rfl, fun j u hj => ?_⟩, SOut.trans HO.out HG.out (SOut.of_below HSD.out HB.out), HO.out.size⟩
      rw [List.getElem?_map] at hj
      cases hu : l[j]? with
      | none => rw [hu] at hj; cases hj
      | some u =>
        rw [hu] at hj
        obtain rfl := Option.some.inj hj
        have hjl := (List.getElem?_eq_some_iff.1 hu).1
        obtain ⟨a0, a1⟩ := HM.out.done j u hjl hu
        rw [Nat.zero_add]
        exact ⟨(HK.out.cell _).trans a0, (HK.out.cell _).trans a1⟩
open Go.RowKit
open Ext (Ex Exts exV ExtsF textX)
theorem hnot_false (w : World) : (Op.unary .not (.bool false)).run Tryz.prog w = .ok (.bool true) w := rfl
open Go.RowKit
open Ext (Ex Exts exV ExtsF textX)
theorem hnot_true (w : World) : (Op.unary .not (.bool true)).run Tryz.prog w = .ok (.bool false) w := rfl
open Go.RowKit
open Ext (Ex Exts exV ExtsF textX)
open Ext (whereX AscTo goodB setX dropX)
/-- Each block of a list stands where the list says. -/
theorem asc_mem : ∀ {l : List Ex} {s e : Int}, AscTo s e l → ∀ x ∈ l, s ≤ x.l ∧ x.Fits ∧ x.l + x.b ≤ e ∧ ∀ n, x.l ≤ n → n < x.l + x.b → whereX l n = some (x.a + n - x.l)
  | y :: t, s, e, h, x, hx => by
    obtain ⟨h1, h2, h3⟩ := h
    have hy := h2
    unfold Ex.Fits at hy
    rcases List.mem_cons.1 hx with rfl | hx
    · exact ⟨h1, h2, h3.le, fun n a b => by rw [Ext.where_cons, if_pos ⟨a, b⟩]⟩
    · obtain ⟨k1, k2, k3, k4⟩ := asc_mem h3 x hx
      refine ⟨by omega, k2, k3, fun n a b => ?_⟩
      rw [Ext.where_cons, if_neg (by omega), k4 n a b]
theorem where_mem : ∀ {l : List Ex} {n a : Int}, whereX l n = some a → ∃ x ∈ l, x.l ≤ n ∧ n < x.l + x.b ∧ a = x.a + n - x.l
  | y :: t, n, a, h => by
    rw [Ext.where_cons] at h
    split at h
    · rename_i hh
      exact ⟨y, List.mem_cons_self .., hh.1, hh.2, (Option.some.inj h).symm⟩
    · obtain ⟨x, hx, k⟩ := where_mem h
      exact ⟨x, List.mem_cons_of_mem _ hx, k⟩
theorem cov_iff {l : List Ex} {s e : Int} (h : AscTo s e l) (i : Nat) : covL l i = true ↔ ∃ b, whereX l b = some ((i : Int) + 576) := by
  unfold covL
  rw [List.any_eq_true]
  constructor
  · rintro ⟨x, hx, hc⟩
    unfold covE at hc
    have hc := of_decide_eq_true hc
    refine ⟨x.l + ((i : Int) + 576 - x.a), ?_⟩
    rw [(asc_mem h x hx).2.2.2 _ (by omega) (by omega)]
    congr 1; omega
  · rintro ⟨b, hb⟩
    obtain ⟨x, hx, h1, h2, h3⟩ := where_mem hb
    refine ⟨x, hx, ?_⟩
    unfold covE
    exact decide_eq_true (by omega)
/-- No two blocks at one place. -/
def InjP (l : List Ex) : Prop := ∀ b c a, whereX l b = some a → whereX l c = some a → b = c
theorem use_of : ∀ {l : List Ex} {s e : Int} {n : Nat} {f : Nat → Bool × Nat}, AscTo s e l → (∀ b a, whereX l b = some a → 576 ≤ a ∧ a < 576 + n ∧ (f (a - 576).toNat).1 = false) → InjP l → UseOk n f l
  | [], _, _, _, _, _, _, _ => trivial
  | x :: t, s, e, n, f, h, hr, hi => by
    obtain ⟨h1, h2, h3⟩ := h
    have hx := h2
    unfold Ex.Fits at hx
    have up : ∀ b a, whereX t b = some a → x.l + x.b ≤ b ∧ whereX (x :: t) b = some a := fun b a hb => by
      have hle : x.l + x.b ≤ b := by
        by_cases hh : x.l + x.b ≤ b
        · exact hh
        · rw [h3.none_below b (by omega)] at hb; cases hb
      refine ⟨hle, ?_⟩
      rw [Ext.where_cons, if_neg (by omega), hb]
    have w1 : whereX (x :: t) x.l = some x.a := by rw [Ext.where_cons, if_pos (by omega)]; congr 1; omega
    have w2 : whereX (x :: t) (x.l + x.b - 1) = some (x.a + x.b - 1) := by rw [Ext.where_cons, if_pos (by omega)]; congr 1; omega
    have r1 := hr _ _ w1
    have r2 := hr _ _ w2
    refine ⟨h2, r1.1, by omega, fun i hc => ?_, use_of h3 (fun b a hb => ?_) (fun b c a hb hc => hi b c a (up b a hb).2 (up c a hc).2)⟩
    · unfold covE at hc
      have hc := of_decide_eq_true hc
      have w3 : whereX (x :: t) (x.l + ((i : Int) + 576 - x.a)) = some ((i : Int) + 576) := by rw [Ext.where_cons, if_pos (by omega)]; congr 1; omega
      have := (hr _ _ w3).2.2
      rwa [show ((i : Int) + 576 - 576).toNat = i by omega] at this
    · obtain ⟨hle, hw⟩ := up b a hb
      obtain ⟨k1, k2, k3⟩ := hr b a hw
      refine ⟨k1, k2, ?_⟩
      unfold useF
      have hn : covL [x] (a - 576).toNat = false := by
        cases hcv : covL [x] (a - 576).toNat with
        | false => rfl
        | true =>
          simp only [covL, List.any_cons, List.any_nil, Bool.or_false, covE, decide_eq_true_eq] at hcv
          have w3 : whereX (x :: t) (x.l + (a - x.a)) = some a := by rw [Ext.where_cons, if_pos (by omega)]; congr 1; omega
          have := hi _ _ _ hw w3
          omega
      rw [hn]
      exact k3
theorem useTs_is : ∀ (l : List Tb) (f : Nat → Bool × Nat) (i : Nat), (useTs f l i).1 = ((f i).1 || l.any (fun t => covL t.ex i)) ∧ (useTs f l i).2 = (f i).2
  | [], f, i => by simp [useTs]
  | t :: l, f, i => by
    have ih := useTs_is l (useF f t.ex) i
    show (useTs (useF f t.ex) l i).1 = _ ∧ (useTs (useF f t.ex) l i).2 = _
    rw [ih.1, ih.2, List.any_cons]
    unfold useF
    cases covL t.ex i <;> simp
/-- The tables' blocks stand at places of their own, of which there are n. -/
structure Apart (n : Nat) (l : List Tb) : Prop where
  range : ∀ (k : Nat) (t : Tb), l[k]? = some t → ∀ b a, whereX t.ex b = some a → 576 ≤ a ∧ a < 576 + n
  one : ∀ (k k' : Nat) (t t' : Tb), l[k]? = some t → l[k']? = some t' → ∀ b b' a, whereX t.ex b = some a → whereX t'.ex b' = some a → k = k' ∧ b = b'
theorem Apart.tail {n : Nat} {t : Tb} {l : List Tb} (h : Apart n (t :: l)) : Apart n l :=
  ⟨fun k u hu => h.range (k + 1) u hu, fun k k' u u' hu hu' b b' a hb hb' => by
    have := h.one (k + 1) (k' + 1) u u' hu hu' b b' a hb hb'
    exact ⟨by omega, this.2⟩⟩
theorem useTs_of : ∀ {l : List Tb} {n : Nat} {f : Nat → Bool × Nat}, (∀ t ∈ l, goodB t.ex = true) → Apart n l → (∀ t ∈ l, ∀ b a, whereX t.ex b = some a → (f (a - 576).toNat).1 = false) → UseTs n f l
  | [], _, _, _, _, _ => trivial
  | t :: l, n, f, hg, ha, hf => by
    have hgt := hg t (List.mem_cons_self ..)
    have hasc := Ext.good_asc hgt
    refine ⟨use_of hasc (fun b a hb => ⟨(ha.range 0 t rfl b a hb).1, (ha.range 0 t rfl b a hb).2, hf t (List.mem_cons_self ..) b a hb⟩) (fun b c a hb hc => (ha.one 0 0 t t rfl rfl b c a hb hc).2), useTs_of (fun u hu => hg u (List.mem_cons_of_mem _ hu)) ha.tail (fun u hu b a hb => ?_)⟩
    unfold useF
    obtain ⟨k, hk⟩ := List.mem_iff_getElem?.1 hu
    have hra := ha.range (k + 1) u hk b a hb
    cases hc : covL t.ex (a - 576).toNat with
    | false => exact hf u (List.mem_cons_of_mem _ hu) b a hb
    | true =>
      obtain ⟨b', hb'⟩ := (cov_iff hasc _).1 hc
      rw [show (((a - 576).toNat : Nat) : Int) + 576 = a by omega] at hb'
      have := (ha.one 0 (k + 1) t u rfl hk b' b a hb' hb).1
      omega
/-- A table is turned into another one: its blocks stand where they stood, or at places that no table has. -/
theorem Apart.set {n : Nat} {l : List Tb} {k : Nat} {t u : Tb} (h : Apart n l) (hk : l[k]? = some t) (hu : ∀ b a, whereX u.ex b = some a → whereX t.ex b = some a ∨ (576 ≤ a ∧ a < 576 + n ∧ ∀ (j : Nat) (v : Tb), l[j]? = some v → ∀ c, whereX v.ex c ≠ some a)) (hi : InjP u.ex) : Apart n (l.set k u) := by
  have hkl := (List.getElem?_eq_some_iff.1 hk).1
  have at_ : ∀ (j : Nat) (v : Tb), (l.set k u)[j]? = some v → (j = k ∧ v = u) ∨ (j ≠ k ∧ l[j]? = some v) := fun j v hv => by
    by_cases hj : j = k
    · subst hj
      rw [List.getElem?_set_self hkl] at hv
      exact .inl ⟨rfl, (Option.some.inj hv).symm⟩
    · rw [List.getElem?_set_ne (by omega)] at hv
      exact .inr ⟨hj, hv⟩
  refine ⟨fun j v hv b a hb => ?_, fun j j' v v' hv hv' b b' a hb hb' => ?_⟩
  · rcases at_ j v hv with ⟨rfl, rfl⟩ | ⟨_, hv⟩
    · rcases hu b a hb with h1 | h1
      · exact h.range j t hk b a h1
      · exact ⟨h1.1, h1.2.1⟩
    · exact h.range j v hv b a hb
  · rcases at_ j v hv with ⟨rfl, rfl⟩ | ⟨hj, gv⟩ <;> rcases at_ j' v' hv' with ⟨rfl, rfl⟩ | ⟨hj', gv'⟩
    · exact ⟨rfl, hi b b' a hb hb'⟩
    · rcases hu b a hb with h1 | h1
      · have := (h.one j j' t v' hk gv' b b' a h1 hb').1; omega
      · exact absurd hb' (h1.2.2 j' v' gv' b')
    · rcases hu b' a hb' with h1 | h1
      · have := (h.one j j' v t gv hk b b' a hb h1).1; omega
      · exact absurd hb (h1.2.2 j v gv b)
    · exact h.one j j' v v' gv gv' b b' a hb hb'
theorem sets_is : ∀ {q l : List Ex}, goodB l = true → AscTo 0 4096 q → goodB (setsX l q) = true ∧ ∀ n, whereX (setsX l q) n = (whereX q n).or (whereX l n)
  | q, l, hl, hq => by
    have key : ∀ (q : List Ex) (l : List Ex) (s : Int), goodB l = true → AscTo s 4096 q → 0 ≤ s → goodB (setsX l q) = true ∧ ∀ n, whereX (setsX l q) n = (whereX q n).or (whereX l n) := by
      intro q
      induction q with
      | nil => intro l s hl _ _; exact ⟨hl, fun n => rfl⟩
      | cons x t ih =>
        intro l s hl hq hs
        obtain ⟨h1, h2, h3⟩ := hq
        have hx := h2
        unfold Ex.Fits at hx
        obtain ⟨g1, g2⟩ := Ext.set_good hl h2
        obtain ⟨k1, k2⟩ := ih (setX l x) _ g1 h3 (by omega)
        refine ⟨k1, fun n => ?_⟩
        show whereX (setsX (setX l x) t) n = _
        rw [k2, g2, Ext.where_cons]
        by_cases hn : x.l ≤ n ∧ n < x.l + x.b
        · rw [if_pos hn, if_pos hn, h3.none_below n (by omega)]; rfl
        · rw [if_neg hn, if_neg hn]
    exact key q l 0 hl hq (Int.le_refl _)
/-- What is found: blocks from lba on, at free places, no two at one. -/
structure Found (f : Nat → Bool × Nat) (safe : Nat) (lba : Int) (k i : Nat) (q : List Ex) : Prop where
  dom : ∀ b, whereX q b ≠ none ↔ lba ≤ b ∧ b < lba + k
  at_ : ∀ b a, whereX q b = some a → 576 ≤ a ∧ a < 576 + i ∧ (f (a - 576).toNat).1 = false ∧ (f (a - 576).toNat).2 ≤ safe
  inj : InjP q
theorem fnd_found {f : Nat → Bool × Nat} {safe : Nat} {lba : Int} {blocks : Nat} (h0 : 0 ≤ lba) (h1 : lba + blocks ≤ 4096) : ∀ i, i ≤ 7616 → Found f safe lba (blocks - (fnd f safe lba blocks i).2) i (fnd f safe lba blocks i).1
  | 0, _ => ⟨(fun b => by
      show (none : Option Int) ≠ none ↔ _
      constructor
      · intro h; exact absurd rfl h
      · intro h; have := h.1; have := h.2; simp only [fnd] at this; omega), (fun b a h => by cases h), (fun b c a h => by cases h)⟩
  | i + 1, hi => by
    obtain ⟨d, t, j⟩ := fnd_found (f := f) (safe := safe) h0 h1 i (by omega)
    have hl := fnd_left f safe lba blocks i
    have hg := fnd_good (f := f) (safe := safe) h0 h1 i (by omega)
    unfold fnd
    generalize fnd f safe lba blocks i = r at *
    by_cases hz : r.2 = 0
    · rw [if_pos hz]
      exact ⟨d, fun b a hb => by have := t b a hb; exact ⟨this.1, by omega, this.2.2⟩, j⟩
    · rw [if_neg hz]
      by_cases hf : (f i).1 = false ∧ (f i).2 ≤ safe
      · rw [if_pos hf]
        obtain ⟨g1, g2⟩ := Ext.set_good hg (fnd_fits (i := i) h0 h1 hl hz (by omega))
        simp only at g2
        have w : ∀ n, whereX (setX r.1 ⟨lba + blocks - r.2, 1, 576 + i⟩) n = if n = lba + blocks - r.2 then some (576 + (i : Int)) else whereX r.1 n := fun n => by
          rw [g2]
          by_cases hn : n = lba + blocks - r.2
          · rw [if_pos (by omega), if_pos hn]; congr 1; omega
          · rw [if_neg (by omega), if_neg hn]
        refine ⟨fun b => ?_, fun b a hb => ?_, fun b c a hb hc => ?_⟩
        · simp only [w]
          by_cases hn : b = lba + blocks - r.2
          · rw [if_pos hn]; simp; omega
          · rw [if_neg hn, d]; omega
        · simp only [w] at hb
          split at hb
          · obtain rfl := Option.some.inj hb
            refine ⟨by omega, by omega, ?_⟩
            rw [show (576 + (i : Int) - 576).toNat = i by omega]
            exact hf
          · have := t b a hb
            exact ⟨this.1, by omega, this.2.2⟩
        · simp only [w] at hb hc
          split at hb <;> split at hc
          · omega
          · obtain rfl := Option.some.inj hb
            have := t c _ hc; omega
          · obtain rfl := Option.some.inj hc
            have := t b _ hb; omega
          · exact j b c a hb hc
      · rw [if_neg hf]
        exact ⟨d, fun b a hb => by have := t b a hb; exact ⟨this.1, by omega, this.2.2⟩, j⟩
/-- How many places can be taken. -/
def freeC (f : Nat → Bool × Nat) (safe m : Nat) : Nat := (List.range m).countP fun i => decide ((f i).1 = false ∧ (f i).2 ≤ safe)
theorem countP_next (p : Nat → Bool) (m : Nat) : (List.range (m + 1)).countP p = (List.range m).countP p + (if p m then 1 else 0) := by
  rw [List.range_succ, List.countP_append]
  simp [List.countP_cons]
theorem fnd_count {f : Nat → Bool × Nat} {safe : Nat} {lba : Int} {blocks : Nat} : ∀ i, (fnd f safe lba blocks i).2 = blocks - freeC f safe i
  | 0 => by simp [fnd, freeC]
  | i + 1 => by
    have ih := fnd_count (f := f) (safe := safe) (lba := lba) (blocks := blocks) i
    have hn := countP_next (fun i => decide ((f i).1 = false ∧ (f i).2 ≤ safe)) i
    unfold freeC at *
    rw [hn]
    unfold fnd
    by_cases hz : (fnd f safe lba blocks i).2 = 0
    · rw [if_pos hz]; omega
    · rw [if_neg hz]
      by_cases hf : (f i).1 = false ∧ (f i).2 ≤ safe
      · rw [if_pos hf, decide_eq_true hf]; simp only [if_true]; omega
      · rw [if_neg hf, decide_eq_false hf]; simp only [Bool.false_eq_true, if_false]; omega
theorem count_span (lo hi : Int) (h0 : lo ≤ hi) : ∀ m : Nat, ((List.range m).countP (fun i : Nat => decide (lo ≤ (i : Int) + 576 ∧ (i : Int) + 576 < hi)) : Int) ≤ max 0 (min ((m : Int) + 576) hi - lo)
  | 0 => by simp; omega
  | m + 1 => by
    have ih := count_span lo hi h0 m
    rw [countP_next]
    by_cases h : lo ≤ (m : Int) + 576 ∧ (m : Int) + 576 < hi
    · rw [decide_eq_true h]; simp only [if_true]; omega
    · rw [decide_eq_false h]; simp only [Bool.false_eq_true, if_false]; omega
theorem count_or (p q : Nat → Bool) : ∀ m, (List.range m).countP (fun i => p i || q i) ≤ (List.range m).countP p + (List.range m).countP q
  | 0 => by simp
  | m + 1 => by
    have ih := count_or p q m
    rw [countP_next, countP_next, countP_next]
    cases p m <;> cases q m <;> simp <;> omega
theorem count_cov : ∀ (l : List Ex) (m : Nat), (∀ x ∈ l, 1 ≤ x.b) → ((List.range m).countP (covL l) : Int) ≤ Ext.sumB l
  | [], m, _ => by
    show ((List.range m).countP (fun _ => false) : Int) ≤ 0
    simp
  | x :: t, m, h => by
    have ih := count_cov t m (fun y hy => h y (List.mem_cons_of_mem _ hy))
    have h1 := count_or (covE x) (covL t) m
    have h2 := count_span x.a (x.a + x.b) (by have := h x (List.mem_cons_self ..); omega) m
    have e : covL (x :: t) = fun i => covE x i || covL t i := by funext i; simp [covL]
    rw [e]
    show _ ≤ x.b + Ext.sumB t
    have h3 : ((List.range m).countP (covE x) : Int) ≤ x.b := by
      have := h x (List.mem_cons_self ..)
      refine Int.le_trans h2 ?_
      omega
    omega
theorem asc_sum : ∀ {l : List Ex} {s e : Int}, AscTo s e l → Ext.sumB l ≤ e - s
  | [], s, e, h => by have h : s ≤ e := h; show (0 : Int) ≤ _; omega
  | x :: t, s, e, h => by
    have ih := asc_sum h.2.2
    have h1 := h.1
    show x.b + Ext.sumB t ≤ _
    omega
theorem asc_down : ∀ {l : List Ex} {s e f : Int}, AscTo s e l → s ≤ f → (∀ b, f ≤ b → whereX l b = none) → AscTo s f l
  | [], s, e, f, _, h, _ => h
  | x :: t, s, e, f, h, hf, hd => by
    obtain ⟨h1, h2, h3⟩ := h
    have hx := h2
    unfold Ex.Fits at hx
    have hlt : x.l + x.b ≤ f := by
      by_cases hh : x.l + x.b ≤ f
      · exact hh
      · by_cases hk : x.l ≤ f
        · have := hd f (Int.le_refl _)
          rw [Ext.where_cons, if_pos (by omega)] at this
          cases this
        · have := hd x.l (by omega)
          rw [Ext.where_cons, if_pos (by omega)] at this
          cases this
    exact ⟨h1, h2, asc_down h3 hlt (fun b hb => by
      have := hd b hb
      rwa [Ext.where_cons, if_neg (by omega)] at this)⟩
theorem Tb.Ok.asc {t : Tb} (h : t.Ok) : AscTo 0 t.n t.ex := asc_down (Ext.good_asc h.good) (by have := h.n1; omega) h.dom
theorem count_tabs : ∀ (l : List Tb) (m : Nat), (∀ t ∈ l, t.Ok) → ((List.range m).countP (fun i => l.any fun t => covL t.ex i) : Int) ≤ sumN l
  | [], m, _ => by
    show ((List.range m).countP (fun _ => false) : Int) ≤ 0
    simp
  | t :: l, m, h => by
    have ih := count_tabs l m (fun y hy => h y (List.mem_cons_of_mem _ hy))
    have ht := h t (List.mem_cons_self ..)
    have h1 := count_or (covL t.ex) (fun i => l.any fun t => covL t.ex i) m
    have h2 := count_cov t.ex m (fun x hx => by have := (asc_mem ht.asc x hx).2.1; unfold Ex.Fits at this; omega)
    have h3 := asc_sum ht.asc
    have e : (fun i => (t :: l).any fun t => covL t.ex i) = fun i => covL t.ex i || l.any fun t => covL t.ex i := by funext i; simp
    rw [e]
    show _ ≤ t.n + sumN l
    omega
theorem count_not (p : Nat → Bool) : ∀ m, (List.range m).countP p + (List.range m).countP (fun i => !p i) = m
  | 0 => rfl
  | m + 1 => by
    have ih := count_not p m
    rw [countP_next, countP_next]
    cases p m <;> simp <;> omega
/-- Where all that is free is safe, there is room for a unit's blocks. -/
theorem room_free {l : List Tb} {n ch k : Nat} {f : Nat → Bool × Nat} (ho : ∀ t ∈ l, t.Ok) (hn : 576 + 2 * sumN l ≤ n) (hf : ∀ i, i < n - 576 → (f i).1 = l.any (fun t => covL t.ex i) ∧ (f i).2 ≤ ch) (hk : (k : Int) ≤ sumN l) : k ≤ freeC f ch (n - 576) := by
  have h1 := count_tabs l (n - 576) ho
  have h2 := count_not (fun i => l.any fun t => covL t.ex i) (n - 576)
  have h3 : freeC f ch (n - 576) = (List.range (n - 576)).countP (fun i => !l.any fun t => covL t.ex i) := by
    unfold freeC
    refine List.countP_congr fun i hi => ?_
    have hi := List.mem_range.1 hi
    obtain ⟨k1, k2⟩ := hf i hi
    rw [k1]
    simp [k2]
  rw [h3]
  omega
theorem putAll_past : ∀ (ws : List (Nat × ByteArray)) (L : List ByteArray) (i : Nat), (∀ w ∈ ws, w.1 ≠ i) → (putAll L ws)[i]? = L[i]?
  | [], _, _, _ => rfl
  | w :: ws, L, i, h => by
    show (putAll (L.set w.1 w.2) ws)[i]? = _
    rw [putAll_past ws _ i (fun v hv => h v (List.mem_cons_of_mem _ hv)), List.getElem?_set_ne (h w (List.mem_cons_self ..))]
theorem putAll_val : ∀ (ws : List (Nat × ByteArray)) (L : List ByteArray) (i : Nat) (v : ByteArray), (∀ w ∈ ws, w.1 = i → w.2 = v) → (∃ w ∈ ws, w.1 = i) → i < L.length → (putAll L ws)[i]? = some v
  | [], _, _, _, _, h, _ => by obtain ⟨w, hw, _⟩ := h; cases hw
  | w :: ws, L, i, v, h, he, hl => by
    show (putAll (L.set w.1 w.2) ws)[i]? = _
    by_cases hx : ∃ u ∈ ws, u.1 = i
    · exact putAll_val ws _ i v (fun u hu => h u (List.mem_cons_of_mem _ hu)) hx (by rw [List.length_set]; exact hl)
    · have hfar : ∀ u ∈ ws, u.1 ≠ i := fun u hu e => hx ⟨u, hu, e⟩
      rw [putAll_past ws _ i hfar]
      have hwi : w.1 = i := by
        obtain ⟨u, hu, e⟩ := he
        rcases List.mem_cons.1 hu with rfl | hu
        · exact e
        · exact absurd e (hfar u hu)
      have hv := h w (List.mem_cons_self ..) hwi
      rw [← hwi, hv, List.getElem?_set_self (by rw [hwi]; exact hl)]
theorem tear_far (safe : List ByteArray) (held : List (Nat × ByteArray)) (keep : List Int) (i : Nat) (h : ∀ w ∈ held, w.1 ≠ i) : ∀ k, (tearN safe held keep k)[i]? = safe[i]?
  | 0 => rfl
  | k + 1 => by
    unfold tearN
    split
    · exact tear_far safe held keep i h k
    · rename_i w hw
      unfold tear1
      rw [List.getElem?_set_ne (h w (List.mem_of_getElem? hw)), tear_far safe held keep i h k]
/-- What is written when blocks are laid. -/
def layW (lba : Nat) (t : ByteArray) : List Ex → List (Nat × ByteArray)
  | [] => []
  | e :: l => secL (t.extract ((e.l.toNat - lba) * 512) ((e.l.toNat - lba) * 512 + e.b.toNat * 512)) e.a.toNat 0 e.b.toNat ++ layW lba t l
theorem put_yes {x : St} {i m : Nat} {s : ByteArray} (h : (x.put i s m).2 = true) : (x.put i s m).1.held = x.held ++ secL s i 0 m ∧ (x.put i s m).1.safe = x.safe ∧ (x.put i s m).1.down = x.down ∧ (x.put i s m).1.armed = x.armed := by
  obtain ⟨c, _, h1, h2, h3, _⟩ := put_form x i m s
  obtain ⟨rfl, h4, h5⟩ := h3 h
  exact ⟨h1, h2, h4, h5⟩
theorem put_seen {x : St} {i m : Nat} {s : ByteArray} (h : (x.put i s m).2 = true) : (x.put i s m).1.seen = putAll x.seen (secL s i 0 m) := by
  obtain ⟨h1, h2, _⟩ := put_yes h
  unfold St.seen
  rw [h1, h2, putAll_app]
theorem flsh_seen (x : St) : x.flsh.1.seen = x.seen := by
  cases h : x.flsh.2 with
  | true =>
    obtain ⟨h1, h2, _⟩ := flsh_yes h
    unfold St.seen
    rw [h1, h2]; rfl
  | false =>
    obtain ⟨h1, h2, _⟩ := flsh_no h
    unfold St.seen
    rw [h1, h2]
/-- Blocks are laid on a device that does not fall. -/
theorem lay_free : ∀ (l : List Ex) (x : St) (lba : Nat) (t : ByteArray), x.armed = false → x.down = false → (∀ e ∈ l, e.b ≤ 4096) →
    (layX x lba t l).2 = true ∧ (layX x lba t l).1.held = [] ∧ (layX x lba t l).1.safe = putAll x.seen (layW lba t l) ∧ (layX x lba t l).1.armed = false ∧ (layX x lba t l).1.down = false ∧ (layX x lba t l).1.ops ≤ x.ops + l.length * 4096 + 1
  | [], x, lba, t, ha, hd, _ => by
    obtain ⟨h1, h2, h3⟩ := free_flsh ha hd
    obtain ⟨k1, k2, k3, k4⟩ := flsh_yes h1
    have := flsh_ops x
    exact ⟨h1, k2, k1, h2, h3, by simp only [List.length_nil]; show x.flsh.1.ops ≤ _; omega⟩
  | e :: l, x, lba, t, ha, hd, hb => by
    have hb1 := hb e (List.mem_cons_self ..)
    obtain ⟨h1, h2, h3⟩ := free_put ha hd e.a.toNat e.b.toNat (t.extract ((e.l.toNat - lba) * 512) ((e.l.toNat - lba) * 512 + e.b.toNat * 512))
    have hs := put_seen h1
    have ho := put_ops x e.a.toNat e.b.toNat (t.extract ((e.l.toNat - lba) * 512) ((e.l.toNat - lba) * 512 + e.b.toNat * 512))
    obtain ⟨k1, k2, k3, k4, k5, k6⟩ := lay_free l _ lba t h2 h3 (fun e he => hb e (List.mem_cons_of_mem _ he))
    unfold layX
    rw [if_pos h1]
    refine ⟨k1, k2, ?_, k4, k5, ?_⟩
    · rw [k3, hs, ← putAll_app]
      rfl
    · rw [List.length_cons]; omega
theorem sec_part {t : ByteArray} {Q B k : Nat} (hk : k < B) : sec (t.extract (Q * 512) (Q * 512 + B * 512)) k = sec t (Q + k) := by
  unfold sec
  rw [ByteArray.extract_extract, Nat.min_eq_left (Nat.add_le_add_left (Nat.mul_le_mul_right 512 hk) _), Nat.add_mul, Nat.add_assoc Q k 1, Nat.add_mul Q (k + 1)]
theorem layW_mem {lba : Nat} {t : ByteArray} : ∀ {l : List Ex} {w : Nat × ByteArray}, w ∈ layW lba t l → ∃ e ∈ l, ∃ k, k < e.b.toNat ∧ w = (e.a.toNat + k, sec t (e.l.toNat - lba + k))
  | [], w, h => by cases h
  | e :: l, w, h => by
    unfold layW at h
    rcases List.mem_append.1 h with h | h
    · obtain ⟨k, hk, rfl⟩ := secL_mem h
      exact ⟨e, List.mem_cons_self .., k, hk, by rw [sec_part hk]⟩
    · obtain ⟨e', he', k⟩ := layW_mem h
      exact ⟨e', List.mem_cons_of_mem _ he', k⟩
theorem layW_has {lba : Nat} {t : ByteArray} : ∀ {l : List Ex} {e : Ex} {k : Nat}, e ∈ l → k < e.b.toNat → (e.a.toNat + k, sec t (e.l.toNat - lba + k)) ∈ layW lba t l
  | e' :: l, e, k, h, hk => by
    unfold layW
    rcases List.mem_cons.1 h with rfl | h
    · refine List.mem_append_left _ ?_
      rw [← sec_part hk]
      unfold secL
      exact List.mem_map.2 ⟨k, List.mem_range.2 hk, by simp⟩
    · exact List.mem_append_right _ (layW_has h hk)
/-- What stands where, behind it. -/
theorem lay_at {q : List Ex} {s e : Int} (ha : AscTo s e q) (hi : InjP q) {lba : Nat} {t : ByteArray} {L : List ByteArray} (hr : ∀ b a, whereX q b = some a → 0 ≤ a ∧ a < L.length ∧ (lba : Int) ≤ b) :
    (∀ b a, whereX q b = some a → (putAll L (layW lba t q))[a.toNat]? = some (sec t (b.toNat - lba))) ∧ ∀ i : Nat, (∀ b, whereX q b ≠ some (i : Int)) → (putAll L (layW lba t q))[i]? = L[i]? := by
  have key : ∀ w ∈ layW lba t q, ∃ b a, whereX q b = some a ∧ w.1 = a.toNat ∧ w.2 = sec t (b.toNat - lba) := fun w hw => by
    obtain ⟨x, hx, k, hk, rfl⟩ := layW_mem hw
    obtain ⟨h1, h2, h3, h4⟩ := asc_mem ha x hx
    unfold Ex.Fits at h2
    have hh := h4 (x.l + k) (by omega) (by omega)
    have := hr _ _ hh
    have h0 := hr _ _ (h4 x.l (by omega) (by omega))
    refine ⟨_, _, hh, by show x.a.toNat + k = _; omega, ?_⟩
    show sec t (x.l.toNat - lba + k) = _
    congr 1; omega
  constructor
  · intro b a hb
    have hra := hr b a hb
    refine putAll_val _ _ _ _ (fun w hw hwa => ?_) ?_ (by omega)
    · obtain ⟨b', a', h1, h2, h3⟩ := key w hw
      have := hr b' a' h1
      obtain rfl : a' = a := by omega
      rw [h3, hi b' b a' h1 hb]
    · obtain ⟨x, hx, h1, h2, h3⟩ := where_mem hb
      have hf := (asc_mem ha x hx).2.1
      unfold Ex.Fits at hf
      exact ⟨_, layW_has hx (k := (b - x.l).toNat) (by omega), by show x.a.toNat + (b - x.l).toNat = _; omega⟩
  · intro i hi2
    refine putAll_past _ _ _ fun w hw he => ?_
    obtain ⟨b', a', h1, h2, h3⟩ := key w hw
    have := hr b' a' h1
    exact hi2 b' (by rw [h1]; congr 1; omega)
/-- A unit as it is seen: its record, what each block that is stored is. -/
structure Un where
  n : Int
  id : ByteArray
  rc : ByteArray
  bl : Int → Option ByteArray
def valE (L : List ByteArray) (l : List Ex) (b : Int) : Option ByteArray := (whereX l b).map fun a => L.getD a.toNat ⟨#[]⟩
def unOf (L : List ByteArray) (t : Tb) : Un := ⟨t.n, t.id, t.rc, valE L t.ex⟩
theorem valE_same {L M : List ByteArray} {l : List Ex} (h : ∀ b a, whereX l b = some a → L[a.toNat]? = M[a.toNat]?) : valE L l = valE M l := by
  funext b
  unfold valE
  cases hb : whereX l b with
  | none => rfl
  | some a =>
    show some (L.getD a.toNat ⟨#[]⟩) = some (M.getD a.toNat ⟨#[]⟩)
    rw [List.getD_eq_getElem?_getD, List.getD_eq_getElem?_getD, h b a hb]
theorem unOf_same {L M : List ByteArray} {t : Tb} (h : ∀ b a, whereX t.ex b = some a → L[a.toNat]? = M[a.toNat]?) : unOf L t = unOf M t := by
  unfold unOf
  rw [valE_same h]
theorem units_same {n : Nat} {l : List Tb} {L M : List ByteArray} (ha : Apart n l) (h : ∀ i, 576 ≤ i → L[i]? = M[i]?) : l.map (unOf L) = l.map (unOf M) := by
  refine List.map_congr_left fun t ht => unOf_same fun b a hb => ?_
  obtain ⟨k, hk⟩ := List.mem_iff_getElem?.1 ht
  have := ha.range k t hk b a hb
  exact h _ (by omega)
end Go.Proofs.YtglfjlbhjaemgaaGreatDoor
