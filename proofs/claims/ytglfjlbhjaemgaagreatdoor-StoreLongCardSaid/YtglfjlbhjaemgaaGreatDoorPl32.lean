/- store: parse, and copies of tables. store: what a change makes of a unit's table. store: the ranges that a change clears. store's statements: their small helpers. store's statements: Fill. -/
import Derived.Test.YtglfjlbhjaemgaaGreatDoorPl31
import Derived.Test.YtglfjlbhjaemgaaGreatDoorPl27
import Derived.Test.YtglfjlbhjaemgaaGreatDoorPl14
import Derived.Test.YtglfjlbhjaemgaaGreatDoorPl29
namespace Go.Proofs.YtglfjlbhjaemgaaGreatDoor
open Go.RowKit
open Ext (Ex Exts exV app_list list_size app_nil textX n4 ExtsF)
/-- The cells of tables, whose extents lie in blocks from B on. -/
def TbCs (w : World) (B : Nat) (R : Option Nat) (ts : List Tb) (xs : List Value) : Prop := xs.length = ts.length * 4 ∧ ∀ (j : Nat) (t : Tb), ts[j]? = some t → ∃ E c, xs[j * 4]? = some (.int .i64 t.n) ∧ xs[j * 4 + 1]? = some (.string t.id) ∧ xs[j * 4 + 2]? = some (.string t.rc) ∧ xs[j * 4 + 3]? = some (.slice E t.ex.length c) ∧ ExtsF B w E t.ex ∧ ∀ a, E = some a → 0 < t.ex.length → some a.block ≠ R
theorem TbCs.nil (w : World) (B : Nat) (R : Option Nat) : TbCs w B R [] [] := ⟨rfl, fun j t h => by simp at h⟩
theorem ExtsF.below {B : Nat} {w w' : World} {A : Option Addr} {l : List Ex} (h : ExtsF B w A l) (hb : Below w.heap.size w w') : ExtsF B w' A l := ⟨h.1.below hb, h.2⟩
theorem TbCs.below {w w' : World} {B : Nat} {R : Option Nat} {ts : List Tb} {xs : List Value} (h : TbCs w B R ts xs) (hb : Below w.heap.size w w') : TbCs w' B R ts xs := ⟨h.1, fun j t hj => by
  obtain ⟨E, c, h0, h1, h2, h3, he, hr⟩ := h.2 j t hj
  exact ⟨E, c, h0, h1, h2, h3, ExtsF.below he hb, hr⟩⟩
theorem TbCs.snoc {w : World} {B : Nat} {R : Option Nat} {ts : List Tb} {xs : List Value} (h : TbCs w B R ts xs) {t : Tb} {E : Option Addr} {c : Nat} (he : ExtsF B w E t.ex) (her : ∀ a, E = some a → 0 < t.ex.length → some a.block ≠ R) : TbCs w B R (ts ++ [t]) (xs ++ [.int .i64 t.n, .string t.id, .string t.rc, .slice E t.ex.length c]) := by
  have hl := h.1
  refine ⟨by rw [List.length_append, List.length_append, hl]; simp; omega, fun j u hj => ?_⟩
  by_cases hlt : j < ts.length
  · rw [List.getElem?_append_left hlt] at hj
    obtain ⟨E', c', h0, h1, h2, h3, he'⟩ := h.2 j u hj
    exact ⟨E', c', by rw [List.getElem?_append_left (by omega)]; exact h0, by rw [List.getElem?_append_left (by omega)]; exact h1, by rw [List.getElem?_append_left (by omega)]; exact h2, by rw [List.getElem?_append_left (by omega)]; exact h3, he'⟩
  · have hj2 : j = ts.length := by have := (List.getElem?_eq_some_iff.1 hj).1; rw [List.length_append] at this; simp at this; omega
    subst hj2
    rw [List.getElem?_append_right (Nat.le_refl _), Nat.sub_self] at hj
    obtain rfl : t = u := by simpa using hj
    refine ⟨E, c, ?_, ?_, ?_, ?_, he, her⟩
    · rw [List.getElem?_append_right (by omega), hl, Nat.sub_self]; rfl
    · rw [List.getElem?_append_right (by omega), hl, Nat.add_sub_cancel_left]; rfl
    · rw [List.getElem?_append_right (by omega), hl, Nat.add_sub_cancel_left]; rfl
    · rw [List.getElem?_append_right (by omega), hl, Nat.add_sub_cancel_left]; rfl
/-- A slice of tables of its own. -/
theorem tbs_of_own {w : World} {base n : Nat} {R : Option Nat} {v : Value} {ts : List Tb} {xs : List Value} (h : w.ownsRow base 140 4 v n xs) (hc : TbCs w base R ts xs) : ∃ A c, v = .slice A ts.length c ∧ Tbs w (fun k => base ≤ k) A ts := by
  have hl : ts.length = n := by have := h.1; have h2 := hc.1; omega
  obtain ⟨A, c, rfl⟩ := Ext.own_form h
  subst hl
  refine ⟨A, c, rfl, fun hn => ?_⟩
  obtain ⟨g, cur, rfl, hb, hg, ht⟩ := Ext.own_some h hn
  refine ⟨g, 0, rfl, hb, fun j t hj => ?_⟩
  have hlt := (List.getElem?_eq_some_iff.1 hj).1
  obtain ⟨E, c', h0, h1, h2, h3, he, _⟩ := hc.2 j t hj
  rw [← ht, List.getElem?_take, if_pos (by omega)] at h0 h1 h2 h3
  refine ⟨E, c', ?_, ?_, ?_, ?_, he.1, fun a ha hn => he.2 hn a ha⟩
  · rw [Nat.zero_add, hg.cell]; simpa using h0
  · rw [Nat.zero_add, hg.cell]; simpa using h1
  · rw [Nat.zero_add, hg.cell]; simpa using h2
  · rw [Nat.zero_add, hg.cell]; simpa using h3
theorem cells_four (w : World) (x y z u : Value) (t : TypeId) {m : Nat} (hm : w.heap.size = m) : ∀ j v, [x, y, z, u][j]? = some v → (w.alloc (.cells #[x, y, z, u] t)).cell? ((⟨m, 0, none⟩ : Addr).add j) = some v := by
  subst hm
  intro j v hj
  match j, hj with
  | 0, hj => simp at hj; subst hj; simp [Addr.add]
  | 1, hj => simp at hj; subst hj; simp [Addr.add]
  | 2, hj => simp at hj; subst hj; simp [Addr.add]
  | 3, hj => simp at hj; subst hj; simp [Addr.add]
theorem four_cells {k : IntKind} {i : Int} {s r : ByteArray} {A : Option Addr} {n c : Nat} : ∀ u ∈ [Value.int k i, .string s, .string r, .slice A n c], u.oneCell' = true := by
  intro u hu
  simp at hu
  rcases hu with rfl | rfl | rfl | rfl <;> rfl
theorem one_alloc (w : World) (A : Array Value) (s : TypeId) : ∀ w0, w0 = w.alloc (.cells A s) → Blk w0 w.heap.size s A ∧ Below w.heap.size w w0 := by
  rintro w0 rfl
  exact ⟨Blk.new w s A, (Below.refl w.heap.size w).alloc (Nat.le_refl _) _⟩
theorem own_below {w w' : World} {B : Nat} {e : TypeId} {n m : Nat} {v : Value} {xs : List Value} (h : w.ownsRow B e m v n xs) (hb : Below w.heap.size w w') : w'.ownsRow B e m v n xs :=
  h.kept (Ext.grown_of_below hb) (by cases hv : v.ownBlock <;> simp)
/-- What grew may have written in the row alone. -/
theorem TbCs.grown {w w' : World} {B : Nat} {R : Option Nat} {ts : List Tb} {xs : List Value} (h : TbCs w B R ts xs) (hg : w.grownBy w' R) : TbCs w' B R ts xs := ⟨h.1, fun j t hj => by
  obtain ⟨E, c, h0, h1, h2, h3, he, hr⟩ := h.2 j t hj
  exact ⟨E, c, h0, h1, h2, h3, ⟨he.1.kept fun hn a ha => hg.block _ (he.1.lt hn a ha) (hr a ha hn), he.2⟩, hr⟩⟩
theorem TbCs.row {w : World} {B N : Nat} {R : Option Nat} {ts : List Tb} {xs : List Value} (h : TbCs w B R ts xs) {w0 : World} (h0 : TbCs w0 B R ts xs) (hN : w0.heap.size ≤ N) : TbCs w B (some N) ts xs := ⟨h.1, fun j t hj => by
  obtain ⟨E, c, h0', h1, h2, h3, he, hr⟩ := h.2 j t hj
  obtain ⟨E', c', _, _, _, h3', he', _⟩ := h0.2 j t hj
  rw [h3] at h3'
  obtain ⟨rfl, _⟩ : E = E' ∧ True := by
    have := Option.some.inj h3'
    injection this with e1 _ _
    exact ⟨e1, trivial⟩
  exact ⟨E, c, h0', h1, h2, h3, he, fun a ha hn e => by
    have := he'.1.lt hn a ha
    have := Option.some.inj e
    omega⟩⟩
theorem own_at {w : World} {B : Nat} {e : TypeId} {n m : Nat} {v : Value} {xs : List Value} (h : w.ownsRow B e m v n xs) : ∀ b, v.ownBlock = some b → B ≤ b ∧ b < w.heap.size := by
  intro b hb
  rcases h.2 with ⟨rfl, _⟩ | ⟨g, cap, cur, rfl, hB, hg, _⟩
  · simp [Value.ownBlock] at hb
  · simp [Value.ownBlock] at hb
    subst hb
    exact ⟨hB, (Array.getElem?_eq_some_iff.1 hg).1⟩
theorem grown_below {wa wb : World} {B : Nat} {R : Option Nat} (h : wa.grownBy wb R) (hr : ∀ b, R = some b → B ≤ b) (hB : B ≤ wa.heap.size) : Below B wa wb :=
  ⟨h.os, h.tape, h.output, h.size, fun i hi => h.block i (Nat.lt_of_lt_of_le hi hB) (fun e => by have := hr i e.symm; omega)⟩
def PsAt (w : World) (l : List Tb) (r ok v : Value) (wr : World) : Prop :=
  ∃ (k : Nat) (xs : List Value), k ≤ l.length ∧ r = .string (catB (l.drop k)) ∧ ok = .bool true ∧ wr.ownsRow w.heap.size 140 4 v k xs ∧ TbCs wr w.heap.size v.ownBlock (l.take k) xs ∧ Below w.heap.size w wr
theorem catB_empty {l : List Tb} : (catB l).toList = [] ↔ l = [] := by
  constructor
  · intro h
    cases l with
    | nil => rfl
    | cons t l =>
      exfalso
      have h1 : (catB (t :: l)).size = 0 := by
        rw [ByteArray.toList_eq] at h
        have := congrArg List.length h
        simpa using this
      have h2 : (tbB t).size + (catB l).size = 0 := by rw [← h1]; exact ByteArray.size_append.symm
      have h3 : (tbB t).size = (parB (unitB t)).size + (parB t.rc).size + (parB (textX t.ex)).size := by
        show (parB _ ++ parB _ ++ parB _).size = _
        rw [ByteArray.size_append, ByteArray.size_append]
      rw [parB_size] at h3
      omega
  · rintro rfl
    rw [ByteArray.toList_eq]
    rfl
set_option maxRecDepth 100000 in
set_option maxHeartbeats 4000000 in
theorem parse_tb (l : List Tb) (w : World) (ho : ∀ t ∈ l, t.Ok) (h1 : 1 ≤ l.length) (hn : l.length ≤ 8) :
    Calls Tryz.prog 201 #[.string (baseB l)] w fun e w' => ∃ A c, e = .returned (.tuple #[.slice A l.length c, .bool true]) ∧ Tbs w' (fun k => w.heap.size ≤ k) A l ∧ Below w.heap.size w w' := by
  have HO := Lib.hid ho
  have hsz := catB_size ho
  have HC := Lib.hid (cutPre_any hgstS (catB l) w (by rw [ByteArray.size_append, show hgstS.size = 4 from rfl]; omega))
  unfold baseB
  generalize hb : hgstS ++ catB l = s at *
  clear hb ho
  go_enter Tryz.func201, Tryz.ntmps201
  go_wp2_with (fail)
  refine HC.out.mono ?_; rintro e w1 ⟨rfl, rfl⟩
  go_wp2_with (fail)
  go_loopw [4, 5, 6] (fun r ok v wr => PsAt w l r ok v wr) (fun r _ _ _ => match r with | .string s => s.size | _ => 0)
  case atStart => exact ⟨0, [], Nat.zero_le _, by rw [List.drop_zero], rfl, World.ownsRow_nil _ _ _ _, TbCs.nil _ _ _, Below.refl _ _⟩
  case round =>
    obtain ⟨k, xs, hk, rfl, rfl, hown, hcs, hb⟩ := hrel
    have HOW := Lib.hid hown; have HCS := Lib.hid hcs; have HB := Lib.hid hb
    clear hown hcs hb
    by_cases hlt : k < l.length
    · obtain ⟨t, ht⟩ : ∃ t, l[k]? = some t := ⟨_, List.getElem?_eq_getElem hlt⟩
      have hdr : l.drop k = t :: l.drop (k + 1) := by
        rw [List.drop_eq_getElem_cons hlt]
        congr 1
        exact Option.some.inj ((List.getElem?_eq_getElem hlt).symm.trans ht)
      have HT := Lib.hid (HO.out t (List.mem_of_getElem? ht))
      have HN := Lib.hid (show l.take (k + 1) = l.take k ++ [t] by rw [List.take_add_one, ht]; rfl)
      have hdz : (catB (l.drop k)).size = (tbB t).size + (catB (l.drop (k + 1))).size := by rw [hdr]; exact (ByteArray.size_append (a := tbB t) (b := catB (l.drop (k + 1))))
      have htz : 12 ≤ (tbB t).size := by
        show 12 ≤ (parB _ ++ parB _ ++ parB _).size
        rw [ByteArray.size_append, ByteArray.size_append, parB_size, parB_size, parB_size]
        omega
      have hdm : (catB (l.drop k)).size ≤ 416000 := by
        have := catB_size (l := l.drop k) (fun u hu => HO.out u (List.mem_of_mem_drop hu))
        rw [List.length_drop] at this
        omega
      have hne : (catB (l.drop k)).toList.isEmpty = false := by
        rw [Bool.eq_false_iff]
        intro h
        have := catB_empty.1 (List.isEmpty_iff.1 h)
        rw [hdr] at this
        cases this
      have HCT : Hid (∀ v, Calls Tryz.prog 220 #[.string (catB (l.drop k))] v fun e w' => ∃ E c, e = .returned (.tuple #[tbV t E c, .string (catB (l.drop (k + 1))), .bool true]) ∧ ExtsF v.heap.size w' E t.ex ∧ Below v.heap.size v w') := Lib.hid (fun v => by
        have := cut_table t (catB (l.drop (k + 1))) v HT.out (by rw [ByteArray.size_append]; omega)
        rwa [show tbB t ++ catB (l.drop (k + 1)) = catB (l.drop k) by rw [hdr]; rfl] at this)
      have HMS := Lib.hid (show (catB (l.drop (k + 1))).size < (catB (l.drop k)).size by omega)
      clear hdr hdz htz hdm ht
      obtain ⟨s0, hs0⟩ : ∃ s0, catB (l.drop k) = s0 := ⟨_, rfl⟩
      rw [hs0] at hne HCT HMS ⊢
      clear hs0
      unfold tbV at HCT
      go_wp2_with (fail)
      obtain ⟨hz, hzb⟩ := one_alloc wr zTb 140 _ rfl
      rw [show (Obj.cells #[Value.int IntKind.i64 0, Value.string ⟨#[]⟩, Value.string ⟨#[]⟩, Value.slice none 0 0] 140) = Obj.cells zTb 140 from rfl]
      generalize hw1 : wr.alloc (Obj.cells zTb 140) = w1 at *
      have hgw : w.heap.size ≤ wr.heap.size := HB.out.size
      refine (HCT.out w1).mono ?_; rintro e w2 ⟨E, ce, rfl, he, hb2⟩
      have HZ2 := Lib.hid (hz.below hb2 hz.lt)
      have hb02 := hzb.trans (hb2.mono hzb.size)
      have HE2 := Lib.hid (he.mono (C := wr.heap.size + 1) hz.lt)
      have HB3 := Lib.hid ((((hb02.setCell (p := ⟨wr.heap.size, 0, none⟩) (Nat.le_refl _) (.int .i64 t.n)).setCell (p := ⟨wr.heap.size, 1, none⟩) (Nat.le_refl _) (.string t.id)).setCell (p := ⟨wr.heap.size, 2, none⟩) (Nat.le_refl _) (.string t.rc)).setCell (p := ⟨wr.heap.size, 3, none⟩) (Nat.le_refl _) (.slice E t.ex.length ce))
      clear hz hzb hw1 HCT he hb2 hb02
      have k0 : w2.cell? ⟨wr.heap.size, 0, none⟩ = some (.int .i64 0) := (HZ2.out.cell 0).trans rfl
      have k1 : w2.cell? ⟨wr.heap.size, 1, none⟩ = some (.string ⟨#[]⟩) := (HZ2.out.cell 1).trans rfl
      have k2 : w2.cell? ⟨wr.heap.size, 2, none⟩ = some (.string ⟨#[]⟩) := (HZ2.out.cell 2).trans rfl
      have k3 : w2.cell? ⟨wr.heap.size, 3, none⟩ = some (.slice none 0 0) := (HZ2.out.cell 3).trans rfl
      have f0 := HZ2.out.free 0
      have f1 := HZ2.out.free 1
      have f2 := HZ2.out.free 2
      have f3 := HZ2.out.free 3
      have HZ3 := Lib.hid ((((HZ2.out.put 0 (.int .i64 t.n)).put 1 (.string t.id)).put 2 (.string t.rc)).put 3 (.slice E t.ex.length ce))
      have HE3 := Lib.hid (show ExtsF (wr.heap.size + 1) ((((w2.setCell ⟨wr.heap.size, 0, none⟩ (.int .i64 t.n)).setCell ⟨wr.heap.size, 1, none⟩ (.string t.id)).setCell ⟨wr.heap.size, 2, none⟩ (.string t.rc)).setCell ⟨wr.heap.size, 3, none⟩ (.slice E t.ex.length ce)) E t.ex from
        ⟨HE2.out.1.kept fun hn a ha => heap_set4 (fun h => by have := HE2.out.2 hn a ha; omega) _ _ _ _, HE2.out.2⟩)
      go_upto_region 6 with (fail)
      clear k0 k1 k2 k3 f0 f1 f2 f3 HZ2
      generalize (((w2.setCell ⟨wr.heap.size, 0, none⟩ (.int .i64 t.n)).setCell ⟨wr.heap.size, 1, none⟩ (.string t.id)).setCell ⟨wr.heap.size, 2, none⟩ (.string t.rc)).setCell ⟨wr.heap.size, 3, none⟩ (.slice E t.ex.length ce) = w3 at *
      have c0 : w3.cell? ⟨wr.heap.size, 0, none⟩ = some (.int .i64 t.n) := (HZ3.out.cell 0).trans rfl
      have c1 : w3.cell? ⟨wr.heap.size, 1, none⟩ = some (.string t.id) := (HZ3.out.cell 1).trans rfl
      have c2 : w3.cell? ⟨wr.heap.size, 2, none⟩ = some (.string t.rc) := (HZ3.out.cell 2).trans rfl
      have c3 : w3.cell? ⟨wr.heap.size, 3, none⟩ = some (.slice E t.ex.length ce) := (HZ3.out.cell 3).trans rfl
      have hal := (Below.refl w3.heap.size w3).alloc (Nat.le_refl _) (.cells #[.int .i64 t.n, .string t.id, .string t.rc, .slice E t.ex.length ce] 140)
      have hb4 := HB3.out.trans (hal.mono HB3.out.size)
      have HRL := Lib.hid (fun b hb => (own_at HOW.out b hb).2)
      have HOW4 := Lib.hid (own_below HOW.out hb4)
      have HCS4 := Lib.hid (HCS.out.below hb4)
      have HE4 := Lib.hid (ExtsF.mono (C := w.heap.size) (ExtsF.below HE3.out hal) (by omega))
      have HEB := Lib.hid HE3.out.2
      have HB4 := Lib.hid (HB.out.trans (hb4.mono HB.out.size))
      have HM := Lib.hid (show k + 1 ≤ maxLen by unfold maxLen; omega)
      have HY := Lib.hid (show (k + 1) * 64 ≤ 140737488355328 by omega)
      obtain ⟨i0, hi0, hz0, hz1, hz2⟩ := info_parts infoTb
      clear hal hb4 HOW HCS HE2 HE3 HB3 HB HZ3
      go_wp2_with (at_builtin; refine wpList_append_own_at _ rfl (.tmp 24) (.tmp 26) _ rfl w.heap.size 140 i0 _ 4 64 Tryz.underlying113 hi0 hz0 hz1 hz2 rfl (by omega) u6 k xs rfl HOW4.out _ 1 1 [.int .i64 t.n, .string t.id, .string t.rc, .slice E t.ex.length ce] rfl rfl (cells_four _ _ _ _ _ _ rfl) four_cells HM.out HY.out HB4.out.size ?_; intro v' w5 hown1 hg1 hn1 hat1; have HO5 := Lib.hid hown1; have HG5 := Lib.hid hg1; have HAT := Lib.hid hat1; clear hown1 hg1 hn1 hat1)
      generalize w3.alloc (.cells #[.int .i64 t.n, .string t.id, .string t.rc, .slice E t.ex.length ce] 140) = w4 at *
      refine ⟨⟨k + 1, _, by omega, rfl, rfl, HO5.out, ?_, HB4.out.trans (grown_below HG5.out (fun b hb => (own_at HOW4.out b hb).1) HB4.out.size)⟩, HMS.out⟩
      rw [HN.out]
      have hs4 := HCS4.out.snoc (t := t) (E := E) (c := ce) HE4.out (fun a ha hn e => by
        have h1 := HRL.out _ e.symm
        have h2 := HEB.out hn a ha
        omega)
      have hs5 := hs4.grown HG5.out
      rcases HAT.out with e | e
      · rw [e]; exact hs5
      · rw [e]; exact hs5.row hs4 (Nat.le_refl _)
    · obtain rfl : k = l.length := by omega
      have hne : (catB (l.drop l.length)).toList.isEmpty = true := by
        rw [List.drop_length, ByteArray.toList_eq]
        rfl
      rw [List.take_length] at HCS
      obtain ⟨A, c, rfl, ht⟩ := tbs_of_own HOW.out HCS.out
      have HSN := Lib.hid (sound_any (fun k => w.heap.size ≤ k) A c l wr ht HO.out h1 hn)
      have HT := Lib.hid ht
      generalize catB (l.drop l.length) = s0 at *
      clear ht
      go_wp2_with (fail)
      refine HSN.out.mono ?_; rintro e w2 ⟨rfl, hb2⟩
      have HT2 := Lib.hid (HT.out.below hb2)
      have HB2 := Lib.hid (HB.out.trans (hb2.mono HB.out.size))
      clear hb2
      go_wp2_with (fail)
      go_ret2
      exact ⟨A, c, rfl, HT2.out, HB2.out⟩
open Go.RowKit
open Ext (Ex Exts exV app_list list_size app_nil textX n4 ExtsF)
/-- Extents with others set, one by one. -/
def setsX (l q : List Ex) : List Ex := q.foldl Ext.setX l
theorem sets_snoc (l q : List Ex) (x : Ex) : setsX l (q ++ [x]) = Ext.setX (setsX l q) x := by unfold setsX; rw [List.foldl_append]; rfl
theorem sets_good : ∀ {q l : List Ex}, Ext.goodB l = true → (∀ x ∈ q, x.Fits) → Ext.goodB (setsX l q) = true
  | [], _, hl, _ => hl
  | x :: q, l, hl, h => sets_good (q := q) (l := Ext.setX l x) (Ext.set_good hl (h x (List.mem_cons_self ..))).1 (fun y hy => h y (List.mem_cons_of_mem _ hy))
theorem step_set {ops : Array Oper} {o : Oper} {a : Act} {w : World} {K : Act → World → Prop} {Q : Exit → Act → World → Prop} {E : Prop} (hgd : o.guard = none) (i j : Nat)
    (ho : o.op = .call { callee := .value (.func 163), args := #[.tmp i, .tmp j], argTypes := #[138, 158] }) (u v : Value) (hu : a.eval (.tmp i) = u) (hv : a.eval (.tmp j) = v) (R : Value → World → Prop)
    (hc : Calls Tryz.prog 163 #[u, v] w fun e w' => ∃ r, e = .returned r ∧ R r w') (h : ∀ r w', R r w' → K (a.put o.dst r) w') :
    if Region.wanted o (yielded ops a.tmps) = true then Oper.wp Tryz.prog o a w K Q else E := by
  have hw : Region.wanted o (yielded ops a.tmps) = true := by simp [Region.wanted, hgd]
  rw [if_pos hw]
  have hr : (execOp a.eval o).run Tryz.prog w = .ok (.enter 163 #[u, v]) w := by
    unfold execOp
    rw [← hu, ← hv]
    simp [ho, resolve, invoke, go_sem]
  unfold Oper.wp
  rw [hr, Oper.upon_enter]
  refine hc.mono ?_
  rintro e w' ⟨r, rfl, hR⟩
  exact h r w' hR
theorem setR_good {l : List Ex} {x : Ex} (hl : Ext.goodB l = true) (hx : x.Fits) : Ext.setR l x = (Ext.setX l x, 0) := by
  unfold Ext.setR
  rw [hl, (Ext.fitsB_iff x).2 hx]
  rfl
theorem fits_wf {x : Ex} (h : x.Fits) : x.Wf := by
  obtain ⟨h1, h2, h3, h4, h5⟩ := h
  exact ⟨by omega, by omega, by omega, by omega, by omega, by omega⟩
theorem good_all {l : List Ex} (h : Ext.goodB l = true) : ∀ x ∈ l, x.Fits := fun x hx => by
  obtain ⟨j, hj, rfl⟩ := List.getElem_of_mem hx
  exact good_fits h (List.getElem?_eq_getElem hj)
theorem set_same_val {cs : Array Value} {i : Nat} {v : Value} (h : cs[i]? = some v) : cs.setIfInBounds i v = cs := by
  refine Array.ext_getElem? fun j => ?_
  by_cases e : i = j
  · subst e
    have hl := (Array.getElem?_eq_some_iff.1 h).1
    rw [Array.getElem?_setIfInBounds_self_of_lt hl, h]
  · rw [Array.getElem?_setIfInBounds_ne e]
theorem set_twice {cs : Array Value} {i : Nat} {u v : Value} : (cs.setIfInBounds i u).setIfInBounds i v = cs.setIfInBounds i v := by
  refine Array.ext_getElem? fun j => ?_
  by_cases e : i = j
  · subst e
    by_cases hl : i < cs.size
    · rw [Array.getElem?_setIfInBounds_self_of_lt (by simpa using hl), Array.getElem?_setIfInBounds_self_of_lt hl]
    · rw [Array.getElem?_eq_none (by simp; omega), Array.getElem?_eq_none (by simp; omega)]
  · rw [Array.getElem?_setIfInBounds_ne e, Array.getElem?_setIfInBounds_ne e, Array.getElem?_setIfInBounds_ne e]
/-- What stands in one block changed. -/
def PutAt (w : World) (M : Nat → Prop) (g k : Nat) (cur : Array Value) (ex q : List Ex) (i : Value) (wr : World) : Prop :=
  ∃ (m : Nat) (E : Option Addr) (c : Nat), i = .int .i64 m ∧ m ≤ q.length ∧ Blk wr g 140 (cur.setIfInBounds (k + 3) (.slice E (setsX ex (q.take m)).length c)) ∧ Exts wr E (setsX ex (q.take m)) ∧ (∀ a, E = some a → 0 < (setsX ex (q.take m)).length → a.block ≠ g ∧ M a.block) ∧ Only (fun b => b = g) w wr
set_option maxRecDepth 100000 in
set_option maxHeartbeats 4000000 in
theorem put_ex (M : Nat → Prop) (g k : Nat) (cur : Array Value) (E : Option Addr) (c : Nat) (ex q : List Ex) (w : World) (hb : Blk w g 140 cur) (hk : k + 3 < cur.size) (hc : cur[k + 3]? = some (.slice E ex.length c)) (he : Exts w E ex) (hM : ∀ k, w.heap.size ≤ k → M k) (hne : ∀ a, E = some a → 0 < ex.length → a.block ≠ g ∧ M a.block) (hg : Ext.goodB ex = true) (hq : Ext.goodB q = true) :
    Calls Tryz.prog 168 #[.pointer (some ⟨g, k, none⟩), .string (textX q)] w fun e w' => e = .returned (.bool true) ∧ ∃ E' c', Blk w' g 140 (cur.setIfInBounds (k + 3) (.slice E' (setsX ex q).length c')) ∧ Exts w' E' (setsX ex q) ∧ (∀ a, E' = some a → 0 < (setsX ex q).length → a.block ≠ g ∧ M a.block) ∧ Only (fun b => b = g) w w' := by
  have HQ := Lib.hid hq
  have HG := Lib.hid hg
  have HB := Lib.hid hb
  have HK := Lib.hid hk
  have HE := Lib.hid he
  have HC := Lib.hid hc
  have HNE := Lib.hid hne
  have HM := Lib.hid hM
  have htz : (textX q).size ≤ 49156 := by rw [Ext.textX_size]; have := Ext.good_length hq; omega
  have hpa := Ext.parse_any (textX q) w (by unfold maxLen; omega)
  rw [Ext.parse_back hq] at hpa
  have HPA := Lib.hid hpa
  clear hpa hb hk he hc hne hM hg hq
  generalize textX q = s at *
  go_enter Tryz.func168, Tryz.ntmps168
  go_wp2_with (fail)
  refine HPA.out.mono ?_; rintro e w1 ⟨Q, cq, rfl, hqe, hb1⟩
  have HQE := Lib.hid hqe.1
  have HQF := Lib.hid hqe.2
  have HO1 := Lib.hid (Only.of_below (S := fun b => b = g) hb1)
  have HB1 := Lib.hid (HB.out.below hb1 HB.out.lt)
  have HLT := Lib.hid HB.out.lt
  have HE1 := Lib.hid (HE.out.below hb1)
  clear hqe hb1 HPA
  go_wp2_with (fail)
  go_loopw [18] (fun i wr => PutAt w1 M g k cur ex q i wr) (fun i _ => q.length - (intOf i).toNat)
  case atStart =>
    refine ⟨0, E, c, rfl, Nat.zero_le _, ?_, HE1.out, HNE.out, Only.refl _ _⟩
    rw [show cur.setIfInBounds (k + 3) (.slice E (setsX ex (q.take 0)).length c) = cur from set_same_val HC.out]
    exact HB1.out
  case round =>
    obtain ⟨m, E, c, rfl, hm, hb, he, hne, ho⟩ := hrel
    have HB := Lib.hid hb; have HE := Lib.hid he; have HNE := Lib.hid hne; have HO := Lib.hid ho
    clear hb he hne ho
    by_cases hlt : m < q.length
    · have hki : (m : Int) < q.length := by omega
      obtain ⟨b, o, x, rfl, hat, wf, c0, c1, c2⟩ := HQE.out.at_ hlt
      have hbg : b ≠ g := fun h => by have h1 := HQF.out (by omega) _ rfl; have h2 := HLT.out; simp only at h1; omega
      have d0 := HO.out.cell c0 hbg
      have d1 := HO.out.cell c1 hbg
      have d2 := HO.out.cell c2 hbg
      have hfx := good_fits HQ.out hat
      have hgs := sets_good HG.out (q := q.take m) (fun y hy => good_all HQ.out y (List.mem_of_mem_take hy))
      have HST := Lib.hid (show setsX ex (q.take (m + 1)) = Ext.setX (setsX ex (q.take m)) x by rw [List.take_add_one, hat, Option.toList_some, sets_snoc])
      obtain ⟨hx0, hxb⟩ := one_alloc wr #[.int .i64 x.l, .int .i64 x.b, .int .i64 x.a] 158 _ rfl
      have HSA : Hid (∀ v, Below wr.heap.size wr v → Calls Tryz.prog 163 #[.slice E (setsX ex (q.take m)).length c, .agg #[.int .i64 x.l, .int .i64 x.b, .int .i64 x.a]] v fun e w' => ∃ E' c', e = .returned (.tuple #[.slice E' (setsX ex (q.take (m + 1))).length c', .int .i64 0]) ∧ ExtsF v.heap.size w' E' (setsX ex (q.take (m + 1))) ∧ Below v.heap.size v w') := Lib.hid (fun v hv => by
        have := Ext.set_any E c (setsX ex (q.take m)) x v (HE.out.below hv) (fits_wf hfx) (by have := Ext.good_length hgs; unfold maxLen; omega)
        rw [setR_good hgs hfx, ← HST.out] at this
        exact this)
      clear c0 c1 c2 wf hat hfx hgs
      obtain ⟨l0, hl0⟩ : ∃ l0, setsX ex (q.take m) = l0 := ⟨_, rfl⟩
      obtain ⟨l1, hl1⟩ : ∃ l1, setsX ex (q.take (m + 1)) = l1 := ⟨_, rfl⟩
      rw [hl0] at HB HE HNE HSA HST
      rw [hl1] at HSA HST
      go_upto_region 7 with (fail)
      generalize hw2 : wr.alloc (.cells #[.int .i64 x.l, .int .i64 x.b, .int .i64 x.a] 158) = w2 at *
      have HB2 := Lib.hid (HB.out.below hxb HB.out.lt)
      have HO2 := Lib.hid (HO.out.below hxb)
      have hwg : wr.heap.size ≠ g := fun h => by have := HB.out.lt; omega
      have hgl := HB.out.lt
      have k0 : w2.cell? ⟨wr.heap.size, 0, none⟩ = some (.int .i64 x.l) := (hx0.cell 0).trans rfl
      have k1 : w2.cell? ⟨wr.heap.size, 1, none⟩ = some (.int .i64 x.b) := (hx0.cell 1).trans rfl
      have k2 : w2.cell? ⟨wr.heap.size, 2, none⟩ = some (.int .i64 x.a) := (hx0.cell 2).trans rfl
      have k3 : w2.cell? ⟨g, k + 3, none⟩ = some (.slice E l0.length c) := (HB2.out.cell _).trans (Array.getElem?_setIfInBounds_self_of_lt HK.out)
      have HS2 := Lib.hid (HSA.out _ (hxb.drew))
      clear hx0 hw2 HSA d0 d1 d2
      go_region_law (first
        | (refine step_set (by rfl) 27 28 (by rfl) (.slice E l0.length c) (.agg #[.int .i64 x.l, .int .i64 x.b, .int .i64 x.a]) (by rfl) (by rfl) (fun r w' => ∃ E' c', r = .tuple #[.slice E' l1.length c', .int .i64 0] ∧ ExtsF w2.heap.size w' E' l1 ∧ Below w2.heap.size w2 w') (HS2.out.mono (fun e w' h => by
             obtain ⟨E', c', h1, h2, h3⟩ := h
             exact ⟨_, h1, E', c', rfl, h2, (Below.refl _ _).drew.trans h3⟩)) ?_
           rintro r w3 ⟨E3, ce3, rfl, hx3, hb4⟩
           have HE3 := Lib.hid hx3
           have HB3 := Lib.hid (HB2.out.below hb4 HB2.out.lt)
           have HO3 := Lib.hid (HO2.out.below hb4)
           have e3 := (hb4.cell (p := ⟨g, k + 3, none⟩) (World.block_lt_of_cell? _ _ k3)).trans k3
           have f3 := HB3.out.free (k + 3)
           clear hx3 hb4)
        | fail)
      all_goals (
        have HB4 := Lib.hid (HB3.out.put (k + 3) (.slice E3 l1.length ce3))
        rw [set_twice] at HB4
        have HO4 := Lib.hid (HO3.out.setCell (p := ⟨g, k + 3, none⟩) (.inl rfl) (.slice E3 l1.length ce3))
        have hql := Ext.good_length HQ.out
        go_wp2_with (fail)
        go_roundw
        case rel =>
          refine ⟨m + 1, E3, ce3, by go_num, by omega, ?_, ?_, ?_, HO4.out⟩
          · rw [hl1]; exact HB4.out
          · rw [hl1]
            exact HE3.out.1.kept fun hn a ha => Below.heap_setCell _ _ _ _ (fun h => by have h1 := HE3.out.2 hn a ha; have h3 : a.block = g := h; have h4 := HB2.out.lt; omega)
          · rw [hl1]
            intro a ha hn
            have h1 := HE3.out.2 hn a ha
            have h4 := HB2.out.lt
            have h5 := HO2.out.size
            have h6 := HO1.out.size
            exact ⟨fun h => by have h3 : a.block = g := h; omega, HM.out _ (by omega)⟩
        case measure => simp [intOf]; omega)
    · obtain rfl : m = q.length := by omega
      have hge : ¬ (q.length : Int) < q.length := by omega
      rw [List.take_length] at HB HE HNE
      go_wp2_with (fail)
      go_ret
      first | exact ⟨rfl, E, _, HB.out, HE.out, HNE.out, HO1.out.trans HO.out (fun _ h => .inl h)⟩ | exact ⟨rfl, E, ⟨_, HB.out⟩, HE.out, HNE.out, HO1.out.trans HO.out (fun _ h => .inl h)⟩
open Go.RowKit
open Ext (Ex Exts exV app_list list_size app_nil textX n4 ExtsF)
def rngB : List (Nat × Nat) → ByteArray
  | [] => ⟨#[]⟩
  | r :: l => putHi r.1 4 ++ putHi r.2 4 ++ rngB l
def dropsX (l : List Ex) (rs : List (Nat × Nat)) : List Ex := rs.foldl (fun acc r => Ext.dropX acc (r.1 : Int) (r.2 : Int)) l
theorem drops_snoc (l : List Ex) (rs : List (Nat × Nat)) (r : Nat × Nat) : dropsX l (rs ++ [r]) = Ext.dropX (dropsX l rs) r.1 r.2 := by unfold dropsX; rw [List.foldl_append]; rfl
theorem drops_good : ∀ {rs : List (Nat × Nat)} {l : List Ex}, Ext.goodB l = true → (∀ r ∈ rs, r.1 + r.2 ≤ 4096) → Ext.goodB (dropsX l rs) = true
  | [], _, hl, _ => hl
  | r :: rs, l, hl, h => drops_good (rs := rs) (l := Ext.dropX l r.1 r.2) (Ext.drop_good hl (by omega) (by omega) (by have := h r (List.mem_cons_self ..); omega)).1 (fun y hy => h y (List.mem_cons_of_mem _ hy))
theorem dropR_good {l : List Ex} {a b : Nat} (hl : Ext.goodB l = true) (h : a + b ≤ 4096) : Ext.dropR l a b = (Ext.dropX l a b, 0) := by
  unfold Ext.dropR
  rw [hl, decide_eq_true (by omega : 0 ≤ (a : Int) ∧ 0 ≤ (b : Int) ∧ (b : Int) ≤ 4096 - (a : Int))]
  rfl
theorem rngB_size : ∀ rs : List (Nat × Nat), (rngB rs).size = rs.length * 8
  | [] => rfl
  | r :: rs => by
    show (putHi r.1 4 ++ putHi r.2 4 ++ rngB rs).size = _
    rw [ByteArray.size_append, ByteArray.size_append, putHi4', putHi4', rngB_size rs, List.length_cons]
    omega
theorem rng_n4 (r : Nat × Nat) (rs : List (Nat × Nat)) (h1 : r.1 < 4294967296) (h2 : r.2 < 4294967296) : n4 (rngB (r :: rs)) 0 = r.1 ∧ n4 (rngB (r :: rs)) 4 = r.2 := by
  constructor
  · have := Ext.n4_val (rngB (r :: rs)) [] (Ext.B4 r.2 ++ (rngB rs).data.toList) r.1 0 h1 rfl (by
      show (putHi r.1 4 ++ putHi r.2 4 ++ rngB rs).data.toList = _
      rw [app_list, app_list, Ext.put4, Ext.put4, List.nil_append, List.append_assoc])
    simpa using this
  · have := Ext.n4_val (rngB (r :: rs)) (Ext.B4 r.1) (rngB rs).data.toList r.2 4 h2 (by rw [← Ext.put4, list_size, putHi4']) (by
      show (putHi r.1 4 ++ putHi r.2 4 ++ rngB rs).data.toList = _
      rw [app_list, app_list, Ext.put4, Ext.put4, List.append_assoc])
    exact this
theorem rng_tail (r : Nat × Nat) (rs : List (Nat × Nat)) : (rngB (r :: rs)).extract 8 (rngB (r :: rs)).size = rngB rs := by
  have h : (putHi r.1 4 ++ putHi r.2 4).size = 8 := by rw [ByteArray.size_append, putHi4', putHi4']
  show (putHi r.1 4 ++ putHi r.2 4 ++ rngB rs).extract 8 (putHi r.1 4 ++ putHi r.2 4 ++ rngB rs).size = _
  rw [extR _ _ _ _ (by omega), h, ByteArray.size_append, h, Nat.sub_self, Nat.add_sub_cancel_left]
  exact ByteArray.extract_zero_size
def DropAt (w : World) (M : Nat → Prop) (g k : Nat) (cur : Array Value) (ex : List Ex) (rs : List (Nat × Nat)) (s : Value) (wr : World) : Prop :=
  ∃ (m : Nat) (E : Option Addr) (c : Nat), s = .string (rngB (rs.drop m)) ∧ m ≤ rs.length ∧ Blk wr g 140 (cur.setIfInBounds (k + 3) (.slice E (dropsX ex (rs.take m)).length c)) ∧ Exts wr E (dropsX ex (rs.take m)) ∧ (∀ a, E = some a → 0 < (dropsX ex (rs.take m)).length → a.block ≠ g ∧ M a.block) ∧ Only (fun b => b = g) w wr
set_option maxRecDepth 100000 in
set_option maxHeartbeats 4000000 in
theorem drop_ex (M : Nat → Prop) (g k : Nat) (cur : Array Value) (E : Option Addr) (c : Nat) (ex : List Ex) (rs : List (Nat × Nat)) (w : World) (hb : Blk w g 140 cur) (hk : k + 3 < cur.size) (hc : cur[k + 3]? = some (.slice E ex.length c)) (he : Exts w E ex) (hM : ∀ k, w.heap.size ≤ k → M k) (hne : ∀ a, E = some a → 0 < ex.length → a.block ≠ g ∧ M a.block) (hg : Ext.goodB ex = true) (hr : ∀ r ∈ rs, r.1 + r.2 ≤ 4096) (hrl : rs.length ≤ 100) :
    Calls Tryz.prog 169 #[.pointer (some ⟨g, k, none⟩), .string (rngB rs)] w fun e w' => e = .returned (.bool true) ∧ ∃ E' c', Blk w' g 140 (cur.setIfInBounds (k + 3) (.slice E' (dropsX ex rs).length c')) ∧ Exts w' E' (dropsX ex rs) ∧ (∀ a, E' = some a → 0 < (dropsX ex rs).length → a.block ≠ g ∧ M a.block) ∧ Only (fun b => b = g) w w' := by
  have HR := Lib.hid hr
  have HG := Lib.hid hg
  have HB := Lib.hid hb
  have HK := Lib.hid hk
  have HE := Lib.hid he
  have HC := Lib.hid hc
  have HNE := Lib.hid hne
  have HMM := Lib.hid hM
  clear hb hk he hc hne hM hg hr
  go_enter Tryz.func169, Tryz.ntmps169
  go_wp2_with (fail)
  go_loopw [1] (fun s wr => DropAt w M g k cur ex rs s wr) (fun s _ => match s with | .string s => s.size | _ => 0)
  case atStart =>
    refine ⟨0, E, c, by rw [List.drop_zero], Nat.zero_le _, ?_, HE.out, HNE.out, Only.refl _ _⟩
    rw [show cur.setIfInBounds (k + 3) (.slice E (dropsX ex (rs.take 0)).length c) = cur from set_same_val HC.out]
    exact HB.out
  case round =>
    obtain ⟨m, E, c, rfl, hm, hb, he, hne, ho⟩ := hrel
    have HB := Lib.hid hb; have HE := Lib.hid he; have HNE := Lib.hid hne; have HO := Lib.hid ho
    clear hb he hne ho
    by_cases hlt : m < rs.length
    · obtain ⟨r, hat⟩ : ∃ r, rs[m]? = some r := ⟨_, List.getElem?_eq_getElem hlt⟩
      have hdr : rs.drop m = r :: rs.drop (m + 1) := by
        rw [List.drop_eq_getElem_cons hlt]
        congr 1
        exact Option.some.inj ((List.getElem?_eq_getElem hlt).symm.trans hat)
      have hrm := HR.out r (List.mem_of_getElem? hat)
      have hgs := drops_good HG.out (rs := rs.take m) (fun y hy => HR.out y (List.mem_of_mem_take hy))
      have HST := Lib.hid (show dropsX ex (rs.take (m + 1)) = Ext.dropX (dropsX ex (rs.take m)) r.1 r.2 by rw [List.take_add_one, hat, Option.toList_some, drops_snoc])
      have HDA : Hid (∀ v, Below wr.heap.size wr v → Calls Tryz.prog 137 #[.slice E (dropsX ex (rs.take m)).length c, .int .i64 (r.1 : Int), .int .i64 (r.2 : Int)] v fun e w' => ∃ E' c', e = .returned (.tuple #[.slice E' (dropsX ex (rs.take (m + 1))).length c', .int .i64 0]) ∧ ExtsF v.heap.size w' E' (dropsX ex (rs.take (m + 1))) ∧ Below v.heap.size v w') := Lib.hid (fun v hv => by
        have := Ext.drop_any E c (dropsX ex (rs.take m)) r.1 r.2 v (HE.out.below hv) (by omega) (by have := Ext.good_length hgs; unfold maxLen; omega)
        rw [dropR_good hgs hrm, ← HST.out] at this
        exact this)
      obtain ⟨n1, n2⟩ := rng_n4 r (rs.drop (m + 1)) (by omega) (by omega)
      have hsz := rngB_size (r :: rs.drop (m + 1))
      have hzl : (r :: rs.drop (m + 1)).length ≤ 100 := by rw [List.length_cons, List.length_drop]; omega
      have hzg : 1 ≤ (r :: rs.drop (m + 1)).length := by rw [List.length_cons]; omega
      have htl := rng_tail r (rs.drop (m + 1))
      have hsz2 := rngB_size (rs.drop (m + 1))
      have hmeas : (rngB (rs.drop (m + 1))).size < (rngB (r :: rs.drop (m + 1))).size := by rw [hsz, hsz2, List.length_cons]; omega
      have HBG0 := Lib.hid (fun v => (show Calls Tryz.prog 194 #[.string (rngB (r :: rs.drop (m + 1))), .int .i64 0, .int .i64 4] v fun e w' => e = .returned (.tuple #[.int .u64 (r.1 : Nat), .bool true]) ∧ Below v.heap.size v w' by
        have := big_any (rngB (r :: rs.drop (m + 1))) 0 4 v (by unfold maxLen; omega)
        rw [show bigR (rngB (r :: rs.drop (m + 1))) 0 4 = r.1 from n1, show okB (rngB (r :: rs.drop (m + 1))) 0 4 = true from okB_yes (by omega)] at this
        exact this))
      have HBG4 := Lib.hid (fun v => (show Calls Tryz.prog 194 #[.string (rngB (r :: rs.drop (m + 1))), .int .i64 4, .int .i64 4] v fun e w' => e = .returned (.tuple #[.int .u64 (r.2 : Nat), .bool true]) ∧ Below v.heap.size v w' by
        have := big_any (rngB (r :: rs.drop (m + 1))) 4 4 v (by unfold maxLen; omega)
        rw [show bigR (rngB (r :: rs.drop (m + 1))) 4 4 = r.2 from n2, show okB (rngB (r :: rs.drop (m + 1))) 4 4 = true from okB_yes (by omega)] at this
        exact this))
      have hw1 : IntKind.i64.wrap (r.1 : Int) = (r.1 : Int) := i64w _ (by omega)
      have hw2 : IntKind.i64.wrap (r.2 : Int) = (r.2 : Int) := i64w _ (by omega)
      rw [hdr]
      obtain ⟨s, hs0⟩ : ∃ s, rngB (r :: rs.drop (m + 1)) = s := ⟨_, rfl⟩
      rw [hs0] at HBG0 HBG4 hsz htl hmeas ⊢
      have HM := Lib.hid hmeas
      have g8 : (8 : Int) ≤ s.size := by omega
      clear hs0 n1 n2 hdr hat hgs hrm hsz hzl hzg hsz2 hmeas
      obtain ⟨l0, hl0⟩ : ∃ l0, dropsX ex (rs.take m) = l0 := ⟨_, rfl⟩
      obtain ⟨l1, hl1⟩ : ∃ l1, dropsX ex (rs.take (m + 1)) = l1 := ⟨_, rfl⟩
      rw [hl0] at HB HE HNE HDA HST
      rw [hl1] at HDA HST
      go_wp2_with (fail)
      refine (HBG0.out _).mono ?_; rintro e w1 ⟨rfl, hb1⟩
      have B1 := Lib.hid hb1; clear hb1
      go_wp2_with (fail)
      refine (HBG4.out _).mono ?_; rintro e w2 ⟨rfl, hb2⟩
      have B2 := Lib.hid (B1.out.trans (hb2.mono B1.out.size)); clear hb2
      have k3 : w2.cell? ⟨g, k + 3, none⟩ = some (.slice E l0.length c) := ((HB.out.below B2.out HB.out.lt).cell _).trans (Array.getElem?_setIfInBounds_self_of_lt HK.out)
      go_wp2_with (fail)
      refine (HDA.out _ B2.out).mono ?_; rintro e w3 ⟨E3, ce3, rfl, hx3, hb3⟩
      have B3 := Lib.hid (B2.out.trans (hb3.mono B2.out.size))
      have HE3 := Lib.hid (ExtsF.mono (C := wr.heap.size) hx3 B2.out.size)
      have HB3 := Lib.hid (HB.out.below B3.out HB.out.lt)
      have HO3 := Lib.hid (HO.out.below B3.out)
      have e3 := (hb3.cell (p := ⟨g, k + 3, none⟩) (World.block_lt_of_cell? _ _ k3)).trans k3
      have f3 := HB3.out.free (k + 3)
      clear hx3 hb3 HDA k3
      have HB4 := Lib.hid (HB3.out.put (k + 3) (.slice E3 l1.length ce3))
      rw [set_twice] at HB4
      have HO4 := Lib.hid (HO3.out.setCell (p := ⟨g, k + 3, none⟩) (.inl rfl) (.slice E3 l1.length ce3))
      have HGL := Lib.hid HB.out.lt
      go_wp2_with (fail)
      go_roundw
      case rel =>
        refine ⟨m + 1, E3, ce3, by first | rfl | rw [htl], by omega, ?_, ?_, ?_, HO4.out⟩
        · rw [hl1]; exact HB4.out
        · rw [hl1]
          exact HE3.out.1.kept fun hn a ha => Below.heap_setCell _ _ _ _ (fun h => by have h1 := HE3.out.2 hn a ha; have h3 : a.block = g := h; have h4 := HGL.out; omega)
        · rw [hl1]
          intro a ha hn
          have h1 := HE3.out.2 hn a ha
          have h4 := HGL.out
          have h5 := HO.out.size
          exact ⟨fun h => by have h3 : a.block = g := h; omega, HMM.out _ (by omega)⟩
      case measure => exact HM.out
    · obtain rfl : m = rs.length := by omega
      rw [List.take_length] at HB HE HNE
      rw [List.drop_length]
      have hz8 : ¬ (8 : Int) ≤ ((rngB []).size : Int) := by decide
      have hemp : (rngB []).toList.isEmpty = true := by rw [ByteArray.toList_eq]; rfl
      generalize rngB [] = s at *
      go_wp2_with (fail)
      go_ret
      first | exact ⟨rfl, E, _, HB.out, HE.out, HNE.out, HO.out⟩ | exact ⟨rfl, E, ⟨_, HB.out⟩, HE.out, HNE.out, HO.out⟩
open Go.RowKit
open Ext (Ex Exts exV ExtsF textX)
def idPre : ByteArray := ⟨#[117, 110, 105, 116, 45, 105, 100, 45, 48, 48, 48, 48, 48, 48, 48]⟩
def idB (b : UInt8) : ByteArray := idPre ++ ⟨#[97 + b % 26]⟩
theorem idB_size (b : UInt8) : (idB b).size = 16 := by unfold idB; rw [ByteArray.size_append]; rfl
set_option maxRecDepth 100000 in
set_option maxHeartbeats 4000000 in
theorem id_any (b : UInt8) (w : World) : Calls Tryz.prog 12 #[.int .u8 (b.toNat : Int)] w fun e w' => e = .returned (.string (idB b)) ∧ Below w.heap.size w w' := by
  have hb := b.toNat_lt
  obtain ⟨c, hc⟩ : ∃ c : Nat, (97 + b % 26 : UInt8).toNat = c := ⟨_, rfl⟩
  have hc2 : c = 97 + b.toNat % 26 := by
    rw [← hc, UInt8.toNat_add, UInt8.toNat_mod]
    show (97 + b.toNat % 26) % 256 = _
    omega
  have hw2 : IntKind.u8.wrap (97 + (b.toNat : Int) % 26) = (c : Int) := by rw [IntKind.wrap_u8]; omega
  have hat : Ext.BytesAt (w.alloc (.cells #[.int .u8 (c : Int)] 5)) w.heap.size ⟨#[97 + b % 26]⟩ := fun j hj => by
    have hj2 : j < 1 := hj
    obtain rfl : j = 0 := by omega
    rw [(Blk.new w 5 #[.int .u8 (c : Int)]).cell]
    refine (show (#[Value.int .u8 (c : Int)])[0]? = some (.int .u8 (c : Int)) from rfl).trans ?_
    rw [← hc]
    rfl
  have hcv := Ext.bytes_str (cap := 1) hat
  rw [show (⟨#[97 + b % 26]⟩ : ByteArray).size = 1 from rfl] at hcv
  have HB := Lib.hid ((Below.refl w.heap.size w).alloc (Nat.le_refl _) (.cells #[.int .u8 (c : Int)] 5))
  have hcat : idPre.size + (⟨#[97 + b % 26]⟩ : ByteArray).size ≤ 9223372036854775807 := by show 15 + 1 ≤ _; omega
  generalize hlb : (⟨#[97 + b % 26]⟩ : ByteArray) = last at *
  have HI := Lib.hid (show idB b = (⟨#[117, 110, 105, 116, 45, 105, 100, 45, 48, 48, 48, 48, 48, 48, 48]⟩ : ByteArray) ++ last by rw [← hlb]; rfl)
  have hcat2 : (⟨#[117, 110, 105, 116, 45, 105, 100, 45, 48, 48, 48, 48, 48, 48, 48]⟩ : ByteArray).size + last.size ≤ 9223372036854775807 := hcat
  clear hat hc hc2 hb hlb hcat
  go_enter Tryz.func12, Tryz.ntmps12
  go_wp2_with (fail)
  go_ret
  exact ⟨by rw [HI.out]; rfl, HB.out⟩
def sumU : List (Int × ByteArray) → Int
  | [] => 0
  | u :: l => u.1 + sumU l
theorem sumU_next {l : List (Int × ByteArray)} {k : Nat} {u : Int × ByteArray} (h : l[k]? = some u) : sumU (l.take (k + 1)) = sumU (l.take k) + u.1 := by
  have key : ∀ (a : List (Int × ByteArray)) (u : Int × ByteArray), sumU (a ++ [u]) = sumU a + u.1 := by
    intro a u
    induction a with
    | nil => show u.1 + 0 = 0 + u.1; omega
    | cons y a ih => show y.1 + sumU (a ++ [u]) = y.1 + sumU a + u.1; rw [ih]; omega
  rw [List.take_add_one, h]
  exact key _ _
theorem sumU_small {l : List (Int × ByteArray)} (h : ∀ u ∈ l, 1 ≤ u.1 ∧ u.1 ≤ 4096) : 0 ≤ sumU l ∧ sumU l ≤ 4096 * (l.length : Int) := by
  induction l with
  | nil => exact ⟨Int.le_refl _, Int.le_refl _⟩
  | cons y l ih =>
    obtain ⟨h1, h2⟩ := ih (fun u hu => h u (List.mem_cons_of_mem _ hu))
    have h3 := h y (List.mem_cons_self ..)
    refine ⟨by show 0 ≤ y.1 + sumU l; omega, ?_⟩
    show y.1 + sumU l ≤ 4096 * ((l.length + 1 : Nat) : Int)
    omega
theorem need_sum (l : List (Int × ByteArray)) : needT (l.map newT) = 576 + 2 * sumU l := by
  have : ∀ l : List (Int × ByteArray), sumN (l.map newT) = sumU l := by
    intro l
    induction l with
    | nil => rfl
    | cons y l ih => show y.1 + sumN (l.map newT) = y.1 + sumU l; rw [ih]
  unfold needT
  rw [this]
theorem needs_any (A : Option Addr) (c : Nat) (l : List (Int × ByteArray)) (w : World) (hl : Uns w A l) (ho : ∀ u ∈ l, 1 ≤ u.1 ∧ u.1 ≤ 4096) (hn : l.length ≤ 8) :
    Calls Tryz.prog 14 #[.slice A l.length c] w fun e w' => e = .returned (.int .i64 (576 + 2 * sumU l)) ∧ Below w.heap.size w w' := by
  have HL := Lib.hid hl
  have HO := Lib.hid ho
  clear hl ho
  go_enter Tryz.func14, Tryz.ntmps14
  go_wp2_with (fail)
  go_loopw [3, 4] (fun n i v => ∃ k : Nat, i = .int .i64 k ∧ k ≤ l.length ∧ n = .int .i64 (576 + 2 * sumU (l.take k)) ∧ Below w.heap.size w v) (fun _ i _ => l.length - (intOf i).toNat)
  case atStart => exact ⟨0, rfl, Nat.zero_le _, rfl, Below.refl _ _⟩
  case round =>
    obtain ⟨k, rfl, hk, rfl, hb⟩ := hrel
    have HB := Lib.hid hb
    by_cases hlt : k < l.length
    · have hki : (k : Int) < l.length := by omega
      have hk8 : (k : Int) < 8 := by omega
      obtain ⟨b, o, u, rfl, hat, c0, c1⟩ := (HL.out.below hb).at_ hlt
      have hu := HO.out u (List.mem_of_getElem? hat)
      have hs := sumU_small (l := l.take k) (fun u hu => HO.out u (List.mem_of_mem_take hu))
      have hlk : (l.take k).length ≤ 8 := by rw [List.length_take]; omega
      have hnx := sumU_next hat
      obtain ⟨z, hz⟩ : ∃ z, sumU (l.take k) = z := ⟨_, rfl⟩
      rw [hz] at hs hnx
      obtain ⟨un, ui⟩ := u
      simp only at hu hnx c0
      have g1 : min un 4096 = un := by omega
      have g2 : max 0 un = un := by omega
      have hw1 : IntKind.i64.wrap (2 * un) = 2 * un := i64w _ (by omega)
      have hw2 : IntKind.i64.wrap (576 + 2 * z + 2 * un) = 576 + 2 * z + 2 * un := i64w _ (by omega)
      have hwk : IntKind.i64.wrap ((k : Int) + 1) = ((k + 1 : Nat) : Int) := by rw [i64w _ (by omega)]; omega
      have HN := Lib.hid (show (Value.int .i64 (576 + 2 * z + 2 * un)) = .int .i64 (576 + 2 * sumU (l.take (k + 1))) by rw [hnx]; congr 1; omega)
      rw [hz]
      clear hat hs hlk hnx hz hu hb c1
      go_wp2_with (fail)
      exact ⟨⟨k + 1, by go_num, hlt, HN.out, HB.out⟩, by simp only [intOf]; omega⟩
    · obtain rfl : k = l.length := by omega
      have hkk : ¬ (l.length : Int) < (l.length : Int) := by omega
      rw [List.take_length]
      go_wp2_with (fail)
      go_ret
      exact ⟨rfl, HB.out⟩
open Go.RowKit
open Ext (Ex Exts exV ExtsF textX)
def fillB (b : UInt8) : Nat → ByteArray
  | 0 => ⟨#[]⟩
  | k + 1 => fillB b k ++ bytesS 512 (b + UInt8.ofNat k)
theorem fillB_size (b : UInt8) : ∀ k, (fillB b k).size = k * 512
  | 0 => rfl
  | k + 1 => by
    show (fillB b k ++ bytesS 512 (b + UInt8.ofNat k)).size = _
    rw [ByteArray.size_append, fillB_size b k, bytesS_size]
    omega
theorem fill_any (n : Nat) (b : UInt8) (w : World) (hn : n ≤ 100000) : Calls Tryz.prog 17 #[.int .i64 (n : Int), .int .u8 (b.toNat : Int)] w fun e w' => e = .returned (.string (fillB b n)) ∧ Below w.heap.size w w' := by
  have HBK := Lib.hid (fun k v => block_any (b + UInt8.ofNat k) v)
  have HW : Hid (∀ k : Nat, IntKind.u8.wrap ((b.toNat : Int) + IntKind.u8.wrap (k : Int)) = ((b + UInt8.ofNat k).toNat : Int)) := Lib.hid (fun k => by
    rw [UInt8.toNat_add, IntKind.wrap_u8, IntKind.wrap_u8, UInt8.toNat_ofNat']
    have := b.toNat_lt
    omega)
  go_enter Tryz.func17, Tryz.ntmps17
  go_wp2_with (fail)
  go_loopw [5, 6] (fun s i v => ∃ k : Nat, i = .int .i64 k ∧ k ≤ n ∧ s = .string (fillB b k) ∧ Below w.heap.size w v) (fun _ i _ => n - (intOf i).toNat)
  case atStart => exact ⟨0, rfl, Nat.zero_le _, rfl, Below.refl _ _⟩
  case round =>
    obtain ⟨k, rfl, hk, rfl, hb⟩ := hrel
    have HB := Lib.hid hb
    by_cases hlt : k < n
    · have hki : (k : Int) < (n : Int) := by omega
      have hw := HW.out k
      obtain ⟨u, hu⟩ : ∃ u, IntKind.u8.wrap (k : Int) = u := ⟨_, rfl⟩
      rw [hu] at hw
      have hwk : IntKind.i64.wrap ((k : Int) + 1) = ((k + 1 : Nat) : Int) := by rw [i64w _ (by omega)]; omega
      have hcat : (fillB b k).size + (bytesS 512 (b + UInt8.ofNat k)).size ≤ 9223372036854775807 := by rw [fillB_size, bytesS_size]; omega
      have HN := Lib.hid (show fillB b k ++ bytesS 512 (b + UInt8.ofNat k) = fillB b (k + 1) from rfl)
      have HK := Lib.hid (HBK.out k)
      obtain ⟨c, hc⟩ : ∃ c : Int, ((b + UInt8.ofNat k).toNat : Int) = c := ⟨_, rfl⟩
      rw [hc] at hw HK
      generalize bytesS 512 (b + UInt8.ofNat k) = z at *
      generalize fillB b k = s at *
      clear hb hc
      go_wp2_with (fail)
      refine (HK.out _).mono ?_; rintro e w2 ⟨rfl, hb2⟩
      have HB2 := Lib.hid (HB.out.trans (hb2.mono HB.out.size))
      clear hb2 HK
      go_wp2_with (fail)
      exact ⟨⟨k + 1, rfl, hlt, by rw [HN.out], HB2.out⟩, by simp only [intOf]; omega⟩
    · obtain rfl : k = n := by omega
      have hkk : ¬ (k : Int) < (k : Int) := by omega
      go_wp2_with (fail)
      go_ret
      exact ⟨rfl, HB.out⟩
end Go.Proofs.YtglfjlbhjaemgaaGreatDoor
