/- store: a unit's table, and the small questions on it. store: tables of new units, whether tables are sound, how many sectors they need. -/
import Derived.Test.YtglfjlbhjaemgaaGreatDoorPl07
import Derived.Test.YtglfjlbhjaemgaaGreatDoorPl09
import Derived.Test.YtglfjlbhjaemgaaGreatDoorPl26
namespace Go.Proofs.YtglfjlbhjaemgaaGreatDoor
open Go.RowKit
open Ext (Ex Exts exV)
/-- What is known of a unit: its blocks, its Id, its record, where its blocks are stored. -/
structure Tb where
  n : Int
  id : ByteArray
  rc : ByteArray
  ex : List Ex
def tbV (t : Tb) (A : Option Addr) (c : Nat) : Value := .agg #[.int .i64 t.n, .string t.id, .string t.rc, .slice A t.ex.length c]
def hasB (n lba b : Int) : Bool := decide (0 ≤ lba ∧ 0 ≤ b ∧ b ≤ n - lba)
theorem word_any (k : Nat) (hk : k < 4294967296) (w : World) : Calls Tryz.prog 121 #[.int .i64 (k : Int)] w fun e w' => e = .returned (.string (putHi k 4)) ∧ Below w.heap.size w w' := by
  have HP := Lib.hid (fun v => putBig_any k 4 v)
  have hw : IntKind.u64.wrap (k : Int) = (k : Int) := by rw [IntWalk.u64_in _ (by omega)]
  clear hk
  go_enter Tryz.func121, Tryz.ntmps121
  go_wp2_with (fail)
  refine (HP.out _).mono ?_
  rintro e w1 ⟨rfl, hb⟩
  have HB := Lib.hid hb
  clear hb
  go_wp2_with (fail)
  go_ret
  exact ⟨rfl, HB.out⟩
set_option maxHeartbeats 1000000 in
theorem has_any (t : Tb) (A : Option Addr) (c : Nat) (lba b : Int) (w : World) (hn : 0 ≤ t.n) (hm : t.n ≤ 1000000) (hl : -9223372036854775808 ≤ lba ∧ lba ≤ 9223372036854775807) :
    Calls Tryz.prog 67 #[tbV t A c, .int .i64 lba, .int .i64 b] w fun e w' => e = .returned (.bool (hasB t.n lba b)) ∧ Below w.heap.size w w' := by
  have hb1 := (Below.refl w.heap.size w).alloc (Nat.le_refl _) (.cells #[.int .i64 t.n, .string t.id, .string t.rc, .slice A t.ex.length c] 140)
  have HB := Lib.hid hb1
  unfold tbV
  clear hb1
  by_cases h1 : 0 ≤ lba
  · by_cases h2 : 0 ≤ b
    · have hw : IntKind.i64.wrap (t.n - lba) = t.n - lba := Ext.i64w _ (by omega)
      by_cases h3 : b ≤ t.n - lba
      · have hv := Lib.hid (show hasB t.n lba b = true from decide_eq_true ⟨h1, h2, h3⟩)
        go_enter Tryz.func67, Tryz.ntmps67
        go_wp2_with (fail)
        go_ret
        exact ⟨by rw [hv.out]; rfl, HB.out⟩
      · have hv := Lib.hid (show hasB t.n lba b = false from decide_eq_false fun h => h3 h.2.2)
        go_enter Tryz.func67, Tryz.ntmps67
        go_wp2_with (fail)
        go_ret
        exact ⟨by rw [hv.out]; rfl, HB.out⟩
    · have hv := Lib.hid (show hasB t.n lba b = false from decide_eq_false fun h => h2 h.2.1)
      go_enter Tryz.func67, Tryz.ntmps67
      go_wp2_with (fail)
      go_ret
      exact ⟨by rw [hv.out]; rfl, HB.out⟩
  · have hv := Lib.hid (show hasB t.n lba b = false from decide_eq_false fun h => h1 h.1)
    go_enter Tryz.func67, Tryz.ntmps67
    go_wp2_with (fail)
    go_ret
    exact ⟨by rw [hv.out]; rfl, HB.out⟩
/-- A unit's table in memory. -/
def TbAt (w : World) (L : Nat → Prop) (b k : Nat) (t : Tb) : Prop :=
  ∃ E c, w.cell? ⟨b, k, none⟩ = some (.int .i64 t.n) ∧ w.cell? ⟨b, k + 1, none⟩ = some (.string t.id) ∧ w.cell? ⟨b, k + 2, none⟩ = some (.string t.rc) ∧ w.cell? ⟨b, k + 3, none⟩ = some (.slice E t.ex.length c) ∧ Exts w E t.ex ∧ ∀ a, E = some a → 0 < t.ex.length → L a.block
/-- Tables in memory; L: the blocks in which they lie. -/
def Tbs (w : World) (L : Nat → Prop) (A : Option Addr) (l : List Tb) : Prop := 0 < l.length → ∃ b o, A = some ⟨b, o, none⟩ ∧ L b ∧ ∀ (j : Nat) (t : Tb), l[j]? = some t → TbAt w L b (o + j * 4) t
theorem TbAt.kept {w w' : World} {L : Nat → Prop} {b k : Nat} {t : Tb} (h : TbAt w L b k t) (hL : L b) (hk : ∀ i, L i → w'.heap[i]? = w.heap[i]?) : TbAt w' L b k t := by
  obtain ⟨E, c, c0, c1, c2, c3, he, hl⟩ := h
  have e := hk b hL
  exact ⟨E, c, (World.cell?_of_block (a := ⟨b, k, none⟩) e).trans c0, (World.cell?_of_block (a := ⟨b, k + 1, none⟩) e).trans c1, (World.cell?_of_block (a := ⟨b, k + 2, none⟩) e).trans c2, (World.cell?_of_block (a := ⟨b, k + 3, none⟩) e).trans c3, he.kept fun hn a ha => hk _ (hl a ha hn), hl⟩
theorem Tbs.kept {w w' : World} {L : Nat → Prop} {A : Option Addr} {l : List Tb} (h : Tbs w L A l) (hk : ∀ i, L i → w'.heap[i]? = w.heap[i]?) : Tbs w' L A l := fun hn => by
  obtain ⟨b, o, rfl, hb, ht⟩ := h hn
  exact ⟨b, o, rfl, hb, fun j t hj => (ht j t hj).kept hb hk⟩
theorem TbAt.below {w w' : World} {L : Nat → Prop} {b k : Nat} {t : Tb} (h : TbAt w L b k t) (hb : Below w.heap.size w w') : TbAt w' L b k t := by
  obtain ⟨E, c, c0, c1, c2, c3, he, hl⟩ := h
  exact ⟨E, c, (hb.cell (World.block_lt_of_cell? _ _ c0)).trans c0, (hb.cell (World.block_lt_of_cell? _ _ c1)).trans c1, (hb.cell (World.block_lt_of_cell? _ _ c2)).trans c2, (hb.cell (World.block_lt_of_cell? _ _ c3)).trans c3, he.below hb, hl⟩
theorem Tbs.below {w w' : World} {L : Nat → Prop} {A : Option Addr} {l : List Tb} (h : Tbs w L A l) (hb : Below w.heap.size w w') : Tbs w' L A l := fun hn => by
  obtain ⟨b, o, rfl, hL, ht⟩ := h hn
  exact ⟨b, o, rfl, hL, fun j t hj => (ht j t hj).below hb⟩
theorem Tbs.mono {w : World} {L M : Nat → Prop} {A : Option Addr} {l : List Tb} (h : Tbs w L A l) (hm : ∀ i, L i → M i) : Tbs w M A l := fun hn => by
  obtain ⟨b, o, rfl, hL, ht⟩ := h hn
  refine ⟨b, o, rfl, hm _ hL, fun j t hj => ?_⟩
  obtain ⟨E, c, c0, c1, c2, c3, he, hl⟩ := ht j t hj
  exact ⟨E, c, c0, c1, c2, c3, he, fun a ha hn => hm _ (hl a ha hn)⟩
/-- A table that may stand in a store. -/
structure Tb.Ok (t : Tb) : Prop where
  n1 : 1 ≤ t.n
  n2 : t.n ≤ 4096
  id : t.id.size = 16
  rc : t.rc.size ≤ 2048
  good : Ext.goodB t.ex = true
  dom : ∀ b, t.n ≤ b → Ext.whereX t.ex b = none
theorem where_in : ∀ {l : List Ex} {x : Ex} {b : Int}, x ∈ l → x.l ≤ b → b < x.l + x.b → Ext.whereX l b ≠ none
  | y :: l, x, b, hm, h1, h2 => by
    rw [Ext.where_cons]
    by_cases hy : y.l ≤ b ∧ b < y.l + y.b
    · rw [if_pos hy]; exact fun h => by cases h
    · rw [if_neg hy]
      rcases List.mem_cons.1 hm with rfl | hm
      · exact absurd ⟨h1, h2⟩ hy
      · exact where_in hm h1 h2
theorem good_fits {l : List Ex} {k : Nat} {x : Ex} (h : Ext.goodB l = true) (hx : l[k]? = some x) : x.Fits := by
  have key : ∀ (l : List Ex) (p : Option Ex), Ext.chainB p l = true → ∀ y ∈ l, y.Fits := by
    intro l
    induction l with
    | nil => intro _ _ y hy; cases hy
    | cons a l ih =>
      intro p hp y hy
      obtain ⟨h1, _, h3⟩ := Ext.chain_cons hp
      rcases List.mem_cons.1 hy with rfl | hy
      · exact h1
      · exact ih _ h3 y hy
  exact key l none h x (List.mem_of_getElem? hx)
theorem dom_all {l : List Ex} {n : Int} (hg : Ext.goodB l = true) (hd : ∀ b, n ≤ b → Ext.whereX l b = none) : ∀ x ∈ l, x.l + x.b ≤ n := fun x hx => by
  obtain ⟨j, hj, rfl⟩ := List.getElem_of_mem hx
  have hf := good_fits hg (List.getElem?_eq_getElem hj)
  have h2 := hf.2.2.1
  by_cases h : (l[j]).l + (l[j]).b ≤ n
  · exact h
  · exact absurd (hd ((l[j]).l + (l[j]).b - 1) (by omega)) (where_in hx (by omega) (by omega))
theorem Tb.Ok.last {t : Tb} (h : t.Ok) : ∀ x, t.ex.getLast? = some x → x.l + x.b ≤ t.n := fun x hx => dom_all h.good h.dom x (List.mem_of_getLast? hx)
theorem Tb.Ok.len {t : Tb} (h : t.Ok) : t.ex.length ≤ 4096 := Ext.good_length h.good
set_option maxHeartbeats 1000000 in
theorem tb_sound (t : Tb) (A : Option Addr) (c : Nat) (w : World) (h : t.Ok) (he : Exts w A t.ex) : Calls Tryz.prog 114 #[tbV t A c] w fun e w' => e = .returned (.bool true) ∧ Below w.heap.size w w' := by
  have hb1 := (Below.refl w.heap.size w).alloc (Nat.le_refl _) (.cells #[.int .i64 t.n, .string t.id, .string t.rc, .slice A t.ex.length c] 140)
  have HB := Lib.hid hb1
  have n1 : ¬ t.n < 1 := by have := h.n1; omega
  have n2 : ¬ 4096 < t.n := by have := h.n2; omega
  have n3 : ((t.id.size : Int) != 16) = false := by rw [bne_eq_false_iff_eq]; have := h.id; omega
  have n4 : ¬ (2048 : Int) < t.rc.size := by have := h.rc; omega
  have hlen := h.len
  have hw : IntKind.i64.wrap ((t.ex.length : Int) - 1) = (t.ex.length : Int) - 1 := Ext.i64w _ (by omega)
  clear hb1
  unfold tbV
  by_cases hz : t.ex.length = 0
  · have hz2 : (t.ex.length : Int) - 1 < 0 := by omega
    clear hz hlen
    go_enter Tryz.func114, Tryz.ntmps114
    go_upto_region 4 with (fail)
    refine wp_region_class (fun v => Below w.heap.size w v) (by kernel_rfl) (by kernel_rfl) HB.out.drew ?_
    go_big_quiet_want
    go_big_quiet_op
    first | go_big_quiet_on | (refine ⟨_, fun _ _ => rfl, ?_⟩; go_big_quiet_on)
    go_big_quiet_want
    go_big_quiet_op
    first | go_big_quiet_on | (refine ⟨_, fun _ _ => rfl, ?_⟩; go_big_quiet_on)
    go_big_quiet_want
    go_big_quiet_op
    first | go_big_quiet_on | (refine ⟨_, fun _ _ => rfl, ?_⟩; go_big_quiet_on)
    go_big_quiet_skip
    go_big_quiet_skip
    go_big_quiet_skip
    go_big_quiet_skip
    go_big_quiet_skip
    go_big_quiet_skip
    go_big_quiet_skip
    go_big_quiet_skip
    go_big_quiet_skip
    go_big_quiet_skip
    go_big_quiet_skip
    go_big_quiet_skip
    go_big_quiet_skip
    go_big_quiet_skip
    go_big_quiet_want
    go_big_quiet_op
    first | go_big_quiet_on | (refine ⟨_, fun _ _ => rfl, ?_⟩; go_big_quiet_on)
    go_big_quiet_want
    go_big_quiet_op
    first | go_big_quiet_on | (refine ⟨_, fun _ _ => rfl, ?_⟩; go_big_quiet_on)
    intro v hv
    have HV := Lib.hid hv
    clear hv
    go_wp2_with (fail)
    go_ret
    exact ⟨rfl, HV.out⟩
  · have hz2 : ¬ (t.ex.length : Int) - 1 < 0 := by omega
    obtain ⟨x, hx⟩ : ∃ x, t.ex[t.ex.length - 1]? = some x := ⟨_, List.getElem?_eq_getElem (by omega)⟩
    have hlast := h.last x (by rw [List.getLast?_eq_getElem?]; exact hx)
    obtain ⟨b, o, rfl, hcs⟩ := he (by omega)
    obtain ⟨hwf, c0, c1, c2⟩ := hcs _ _ hx
    have hfx := good_fits h.good hx
    have hl1 := hwf.l1
    have hl2 := hwf.l2
    have hhas := Lib.hid (show hasB t.n x.l x.b = true from decide_eq_true ⟨hfx.1, by have := hfx.2.2.1; omega, by omega⟩)
    have i1 : 0 ≤ (t.ex.length : Int) - 1 := by omega
    have i2 : (t.ex.length : Int) - 1 < (t.ex.length : Int) := by omega
    have i3 : ((t.ex.length : Int) - 1).toNat = t.ex.length - 1 := by omega
    obtain ⟨w1, hw1⟩ : ∃ w1, w1 = w.alloc (.cells #[.int .i64 t.n, .string t.id, .string t.rc, .slice (some ⟨b, o, none⟩) t.ex.length c] 140) := ⟨_, rfl⟩
    have HN := Blk.new w 140 #[.int .i64 t.n, .string t.id, .string t.rc, .slice (some ⟨b, o, none⟩) t.ex.length c]
    have HB1 := HB
    rw [← hw1] at HN HB1
    have HC0 := Lib.hid (Below.refl w1.heap.size w1).drew
    have HL : Hid (∀ v, Below w1.heap.size w1 v → v.cell? ⟨w.heap.size, 0, none⟩ = some (.int .i64 t.n) ∧ v.cell? ⟨w.heap.size, 1, none⟩ = some (.string t.id) ∧ v.cell? ⟨w.heap.size, 2, none⟩ = some (.string t.rc) ∧ v.cell? ⟨w.heap.size, 3, none⟩ = some (.slice (some ⟨b, o, none⟩) t.ex.length c) ∧ v.cell? ⟨b, o + (t.ex.length - 1) * 3, none⟩ = some (.int .i64 x.l) ∧ v.cell? ⟨b, o + (t.ex.length - 1) * 3 + 1, none⟩ = some (.int .i64 x.b)) := Lib.hid fun v hv => by
      have k0 := HN.cell 0
      have k1 := HN.cell 1
      have k2 := HN.cell 2
      have k3 := HN.cell 3
      have e0 := (HB1.out.cell (World.block_lt_of_cell? _ _ c0)).trans c0
      have e1 := (HB1.out.cell (World.block_lt_of_cell? _ _ c1)).trans c1
      exact ⟨(hv.cell (World.block_lt_of_cell? _ _ k0)).trans k0, (hv.cell (World.block_lt_of_cell? _ _ k1)).trans k1, (hv.cell (World.block_lt_of_cell? _ _ k2)).trans k2, (hv.cell (World.block_lt_of_cell? _ _ k3)).trans k3, (hv.cell (World.block_lt_of_cell? _ _ e0)).trans e0, (hv.cell (World.block_lt_of_cell? _ _ e1)).trans e1⟩
    have HHAS : Hid (∀ v, Calls Tryz.prog 67 #[tbV t (some ⟨b, o, none⟩) c, .int .i64 x.l, .int .i64 x.b] v fun e w' => e = .returned (.bool true) ∧ Below v.heap.size v w') := Lib.hid fun v => hhas.out ▸ has_any t (some ⟨b, o, none⟩) c x.l x.b v (by have := h.n1; omega) (by have := h.n2; omega) ⟨hl1, hl2⟩
    have hnn : t.n ≤ 4096 := h.n2
    unfold tbV at HHAS
    clear hz c0 c1 c2 hcs hlast hfx HN h hwf hx hlen hhas he
    go_enter Tryz.func114, Tryz.ntmps114
    go_upto_region 4 with (fail)
    rw [← hw1]
    clear hw1
    refine wp_region_class (fun v => Below w1.heap.size w1 v) (by kernel_rfl) (by kernel_rfl) HC0.out ?_
    go_big_quiet_want
    go_big_quiet_op
    first | go_big_quiet_on | (refine ⟨_, fun _ _ => rfl, ?_⟩; go_big_quiet_on)
    go_big_quiet_want
    go_big_quiet_op
    first | go_big_quiet_on | (refine ⟨_, fun _ _ => rfl, ?_⟩; go_big_quiet_on)
    go_big_quiet_want
    go_big_quiet_op
    first | go_big_quiet_on | (refine ⟨_, fun _ _ => rfl, ?_⟩; go_big_quiet_on)
    go_big_quiet_want
    refine quiet_run (v := .agg #[.int .i64 t.n, .string t.id, .string t.rc, .slice (some ⟨b, o, none⟩) t.ex.length c]) (fun v hv => by obtain ⟨k0, k1, k2, k3, e0, e1⟩ := HL.out v hv; go_simp) ?_
    simp only [Act.put, List.setIfInBounds_toArray, List.set_cons_zero, List.set_cons_succ]
    go_big_quiet_on
    go_big_quiet_want
    go_big_quiet_op
    first | go_big_quiet_on | (refine ⟨_, fun _ _ => rfl, ?_⟩; go_big_quiet_on)
    go_big_quiet_want
    refine quiet_run (v := .slice (some ⟨b, o, none⟩) t.ex.length c) (fun v hv => by obtain ⟨k0, k1, k2, k3, e0, e1⟩ := HL.out v hv; go_simp) ?_
    simp only [Act.put, List.setIfInBounds_toArray, List.set_cons_zero, List.set_cons_succ]
    go_big_quiet_on
    go_big_quiet_want
    go_big_quiet_op
    first | go_big_quiet_on | (refine ⟨_, fun _ _ => rfl, ?_⟩; go_big_quiet_on)
    go_big_quiet_want
    refine quiet_run (v := .pointer (some ⟨b, o + (t.ex.length - 1) * 3, none⟩)) (fun v hv => by go_simp; intro hh; omega) ?_
    simp only [Act.put, List.setIfInBounds_toArray, List.set_cons_zero, List.set_cons_succ]
    go_big_quiet_on
    go_big_quiet_want
    go_big_quiet_op
    first | go_big_quiet_on | (refine ⟨_, fun _ _ => rfl, ?_⟩; go_big_quiet_on)
    go_big_quiet_want
    refine quiet_run (v := .int .i64 x.l) (fun v hv => by obtain ⟨k0, k1, k2, k3, e0, e1⟩ := HL.out v hv; go_simp) ?_
    simp only [Act.put, List.setIfInBounds_toArray, List.set_cons_zero, List.set_cons_succ]
    go_big_quiet_on
    go_big_quiet_want
    go_big_quiet_op
    first | go_big_quiet_on | (refine ⟨_, fun _ _ => rfl, ?_⟩; go_big_quiet_on)
    go_big_quiet_want
    refine quiet_run (v := .slice (some ⟨b, o, none⟩) t.ex.length c) (fun v hv => by obtain ⟨k0, k1, k2, k3, e0, e1⟩ := HL.out v hv; go_simp) ?_
    simp only [Act.put, List.setIfInBounds_toArray, List.set_cons_zero, List.set_cons_succ]
    go_big_quiet_on
    go_big_quiet_want
    go_big_quiet_op
    first | go_big_quiet_on | (refine ⟨_, fun _ _ => rfl, ?_⟩; go_big_quiet_on)
    go_big_quiet_want
    refine quiet_run (v := .pointer (some ⟨b, o + (t.ex.length - 1) * 3, none⟩)) (fun v hv => by go_simp; intro hh; omega) ?_
    simp only [Act.put, List.setIfInBounds_toArray, List.set_cons_zero, List.set_cons_succ]
    go_big_quiet_on
    go_big_quiet_want
    go_big_quiet_op
    first | go_big_quiet_on | (refine ⟨_, fun _ _ => rfl, ?_⟩; go_big_quiet_on)
    go_big_quiet_want
    refine quiet_run (v := .int .i64 x.b) (fun v hv => by obtain ⟨k0, k1, k2, k3, e0, e1⟩ := HL.out v hv; go_simp) ?_
    simp only [Act.put, List.setIfInBounds_toArray, List.set_cons_zero, List.set_cons_succ]
    go_big_quiet_on
    go_big_quiet_want
    refine quiet_call (f := 67) (args := #[.agg #[.int .i64 t.n, .string t.id, .string t.rc, .slice (some ⟨b, o, none⟩) t.ex.length c], .int .i64 x.l, .int .i64 x.b]) (fun v _ => by go_simp) (fun v hv => (HHAS.out v).mono (fun e w2 h => ⟨h.1, hv.trans (h.2.mono hv.size)⟩)) ?_
    simp only [Act.put, List.setIfInBounds_toArray, List.set_cons_zero, List.set_cons_succ]
    go_big_quiet_on
    go_big_quiet_want
    go_big_quiet_op
    first | go_big_quiet_on | (refine ⟨_, fun _ _ => rfl, ?_⟩; go_big_quiet_on)
    go_big_quiet_want
    go_big_quiet_op
    first | go_big_quiet_on | (refine ⟨_, fun _ _ => rfl, ?_⟩; go_big_quiet_on)
    intro v hv
    have HV := Lib.hid (HB1.out.trans (hv.mono HB1.out.size))
    clear hv
    go_wp2_with (fail)
    go_ret
    exact ⟨rfl, HV.out⟩
open Go.RowKit
open Ext (Ex Exts exV)
theorem Tbs.at_ {w : World} {L : Nat → Prop} {A : Option Addr} {l : List Tb} (h : Tbs w L A l) {j : Nat} (hj : j < l.length) : ∃ b o t E c, A = some ⟨b, o, none⟩ ∧ l[j]? = some t ∧ w.cell? ⟨b, o + j * 4, none⟩ = some (.int .i64 t.n) ∧ w.cell? ⟨b, o + j * 4 + 1, none⟩ = some (.string t.id) ∧ w.cell? ⟨b, o + j * 4 + 2, none⟩ = some (.string t.rc) ∧ w.cell? ⟨b, o + j * 4 + 3, none⟩ = some (.slice E t.ex.length c) ∧ Exts w E t.ex ∧ L b ∧ ∀ a, E = some a → 0 < t.ex.length → L a.block := by
  obtain ⟨b, o, rfl, hb, ht⟩ := h (by omega)
  obtain ⟨E, c, c0, c1, c2, c3, he, hl⟩ := ht j _ (List.getElem?_eq_getElem hj)
  exact ⟨b, o, _, E, c, rfl, List.getElem?_eq_getElem hj, c0, c1, c2, c3, he, hb, hl⟩
theorem Tbs.nil (w : World) (L : Nat → Prop) (A : Option Addr) : Tbs w L A [] := fun h => absurd h (Nat.not_lt_zero _)
def sumN : List Tb → Int
  | [] => 0
  | t :: l => t.n + sumN l
theorem sumN_snoc (l : List Tb) (t : Tb) : sumN (l ++ [t]) = sumN l + t.n := by
  induction l with
  | nil => show t.n + 0 = 0 + t.n; omega
  | cons y l ih => show y.n + sumN (l ++ [t]) = y.n + sumN l + t.n; rw [ih]; omega
theorem sumN_next {l : List Tb} {k : Nat} {t : Tb} (h : l[k]? = some t) : sumN (l.take (k + 1)) = sumN (l.take k) + t.n := by
  rw [List.take_add_one, h, Option.toList_some, sumN_snoc]
theorem sumN_small {l : List Tb} (h : ∀ t ∈ l, 1 ≤ t.n ∧ t.n ≤ 4096) : 0 ≤ sumN l ∧ sumN l ≤ 4096 * (l.length : Int) := by
  induction l with
  | nil => simp [sumN]
  | cons y l ih =>
    have h1 := h y (by simp)
    have h2 := ih (fun x hx => h x (by simp [hx]))
    simp only [sumN, List.length_cons]
    omega
def needT (l : List Tb) : Int := 576 + 2 * sumN l
set_option maxRecDepth 100000 in
set_option maxHeartbeats 1000000 in
theorem required_any (L : Nat → Prop) (A : Option Addr) (c : Nat) (l : List Tb) (w : World) (hl : Tbs w L A l) (ho : ∀ t ∈ l, 1 ≤ t.n ∧ t.n ≤ 4096) (hn : l.length ≤ 8) :
    Calls Tryz.prog 63 #[.slice A l.length c] w fun e w' => e = .returned (.int .i64 (needT l)) ∧ Below w.heap.size w w' := by
  have HL := Lib.hid hl
  have HO := Lib.hid ho
  clear hl ho
  have HB0 := Lib.hid (Below.refl w.heap.size w)
  go_enter Tryz.func63, Tryz.ntmps63
  go_wp2_with (fail)
  go_loopw [8, 3] (fun i s wr => ∃ k : Nat, i = .int .i64 k ∧ k ≤ l.length ∧ s = .int .i64 (576 + 2 * sumN (l.take k)) ∧ Below w.heap.size w wr) (fun i _ _ => l.length - (intOf i).toNat)
  case atStart => exact ⟨0, rfl, Nat.zero_le _, rfl, HB0.out⟩
  case round =>
    obtain ⟨k, rfl, hk, rfl, hb⟩ := hrel
    have HB := Lib.hid hb; clear hb
    by_cases hlt : k < l.length
    · have hki : (k : Int) < l.length := by omega
      obtain ⟨b, o, t, E, ce, rfl, hat, c0, c1, c2, c3, _⟩ := (HL.out.below HB.out).at_ hlt
      have HS := Lib.hid (sumN_next hat)
      have hf := HO.out t (List.mem_of_getElem? hat)
      have hs := sumN_small (l := l.take k) (fun y hy => HO.out y (List.mem_of_mem_take hy))
      rw [List.length_take, Nat.min_eq_left hk] at hs
      have hw1 : IntKind.i64.wrap (t.n * 2) = t.n * 2 := i64w _ (by omega)
      have hw : IntKind.i64.wrap (576 + 2 * sumN (l.take k) + t.n * 2) = 576 + 2 * sumN (l.take k) + t.n * 2 := i64w _ (by omega)
      clear hat hf hs
      generalize sumN (l.take k) = sk at *
      go_wp2_with (fail)
      go_roundw
      case rel => exact ⟨k + 1, by go_num, by omega, by rw [HS.out]; congr 1; omega, HB.out.alloc HB.out.size _⟩
      case measure => simp [intOf]; omega
    · obtain rfl : k = l.length := by omega
      rw [List.take_length]
      go_wp2
      go_ret
      exact ⟨rfl, HB.out⟩
theorem sound_any (L : Nat → Prop) (A : Option Addr) (c : Nat) (l : List Tb) (w : World) (hl : Tbs w L A l) (ho : ∀ t ∈ l, t.Ok) (h1 : 1 ≤ l.length) (hn : l.length ≤ 8) :
    Calls Tryz.prog 61 #[.slice A l.length c] w fun e w' => e = .returned (.bool true) ∧ Below w.heap.size w w' := by
  have HL := Lib.hid hl
  have HO := Lib.hid ho
  clear hl ho
  have HB0 := Lib.hid (Below.refl w.heap.size w)
  have hnot : ∀ (x : Bool) (w : World), (Op.unary .not (.bool x)).run Tryz.prog w = .ok (.bool (!x)) w := fun _ _ => rfl
  have l1 : (1 : Int) ≤ l.length := by omega
  have l2 : (l.length : Int) ≤ 8 := by omega
  go_enter Tryz.func61, Tryz.ntmps61
  go_wp2_with (fail)
  go_loopw [7] (fun i wr => ∃ k : Nat, i = .int .i64 k ∧ k ≤ l.length ∧ Below w.heap.size w wr) (fun i _ => l.length - (intOf i).toNat)
  case atStart => exact ⟨0, rfl, Nat.zero_le _, HB0.out⟩
  case round =>
    obtain ⟨k, rfl, hk, hb⟩ := hrel
    have HB := Lib.hid hb; clear hb
    by_cases hlt : k < l.length
    · have hki : (k : Int) < l.length := by omega
      obtain ⟨b, o, t, E, ce, rfl, hat, c0, c1, c2, c3, he, _⟩ := (HL.out.below HB.out).at_ hlt
      have HK := Lib.hid (HO.out t (List.mem_of_getElem? hat))
      have hb1 := (Below.refl wr.heap.size wr).alloc (Nat.le_refl _) (.cells #[.int .i64 t.n, .string t.id, .string t.rc, .slice E t.ex.length ce] 140)
      have HS := Lib.hid (tb_sound t E ce _ HK.out (he.below hb1))
      have HB1 := Lib.hid (HB.out.trans (hb1.mono HB.out.size))
      unfold tbV at HS
      clear hat he hb1
      go_wp2_with (fail)
      refine HS.out.mono ?_
      rintro e w2 ⟨rfl, hb2⟩
      have HB2 := Lib.hid (HB1.out.trans (hb2.mono HB1.out.size))
      clear hb2
      go_wp2_with (fail)
      go_roundw
      case rel => exact ⟨k + 1, by go_num, by omega, HB2.out⟩
      case measure => simp [intOf]; omega
    · obtain rfl : k = l.length := by omega
      have hge : ¬ (l.length : Int) < l.length := by omega
      go_wp2_with (fail)
      go_ret
      exact ⟨rfl, HB.out⟩
/-- Units in memory: how many blocks, and the Id. -/
def Uns (w : World) (A : Option Addr) (l : List (Int × ByteArray)) : Prop := 0 < l.length → ∃ b o, A = some ⟨b, o, none⟩ ∧ ∀ (j : Nat) (u : Int × ByteArray), l[j]? = some u → w.cell? ⟨b, o + j * 2, none⟩ = some (.int .i64 u.1) ∧ w.cell? ⟨b, o + j * 2 + 1, none⟩ = some (.string u.2)
theorem Uns.below {w w' : World} {A : Option Addr} {l : List (Int × ByteArray)} (h : Uns w A l) (hb : Below w.heap.size w w') : Uns w' A l := fun hn => by
  obtain ⟨b, o, rfl, ht⟩ := h hn
  exact ⟨b, o, rfl, fun j u hj => ⟨(hb.cell (World.block_lt_of_cell? _ _ (ht j u hj).1)).trans (ht j u hj).1, (hb.cell (World.block_lt_of_cell? _ _ (ht j u hj).2)).trans (ht j u hj).2⟩⟩
theorem Uns.at_ {w : World} {A : Option Addr} {l : List (Int × ByteArray)} (h : Uns w A l) {j : Nat} (hj : j < l.length) : ∃ b o u, A = some ⟨b, o, none⟩ ∧ l[j]? = some u ∧ w.cell? ⟨b, o + j * 2, none⟩ = some (.int .i64 u.1) ∧ w.cell? ⟨b, o + j * 2 + 1, none⟩ = some (.string u.2) := by
  obtain ⟨b, o, rfl, ht⟩ := h (by omega)
  exact ⟨b, o, _, rfl, List.getElem?_eq_getElem hj, ht j _ (List.getElem?_eq_getElem hj)⟩
def newT (u : Int × ByteArray) : Tb := ⟨u.1, u.2, ⟨#[]⟩, []⟩
/-- The first k tables are made. -/
structure Made (l : List (Int × ByteArray)) (k : Nat) (cs : Array Value) : Prop where
  size : cs.size = l.length * 4
  done : ∀ j u, j < k → l[j]? = some u → cs[j * 4]? = some (.int .i64 u.1) ∧ cs[j * 4 + 1]? = some (.string u.2)
  rest : ∀ j, j < l.length → cs[j * 4 + 2]? = some (.string ⟨#[]⟩) ∧ cs[j * 4 + 3]? = some (.slice none 0 0)
theorem set_far {cs : Array Value} {i j : Nat} {v : Value} (h : i ≠ j) : (cs.setIfInBounds i v)[j]? = cs[j]? := Array.getElem?_setIfInBounds_ne h
theorem Made.step {l : List (Int × ByteArray)} {k : Nat} {cs : Array Value} {u : Int × ByteArray} (h : Made l k cs) (hk : k < l.length) (hu : l[k]? = some u) :
    Made l (k + 1) ((cs.setIfInBounds (k * 4) (.int .i64 u.1)).setIfInBounds (k * 4 + 1) (.string u.2)) := by
  have hz := h.size
  refine ⟨by simpa using h.size, fun j v hj hv => ?_, fun j hj => ?_⟩
  · by_cases hjk : j = k
    · subst hjk
      rw [hu] at hv
      obtain rfl := Option.some.inj hv
      have a0 : j * 4 < cs.size := by omega
      have a1 : j * 4 + 1 < cs.size := by omega
      refine ⟨?_, ?_⟩ <;> simp [a0, a1]
    · obtain ⟨c0, c1⟩ := h.done j v (by omega) hv
      exact ⟨by rw [set_far (by omega), set_far (by omega)]; exact c0, by rw [set_far (by omega), set_far (by omega)]; exact c1⟩
  · obtain ⟨c0, c1⟩ := h.rest j hj
    exact ⟨by rw [set_far (by omega), set_far (by omega)]; exact c0, by rw [set_far (by omega), set_far (by omega)]; exact c1⟩
theorem infoTb : (Tryz.prog.info? 140).map (fun i => (i.zero, i.size, i.bytes)) = some (some (.agg #[.int .i64 0, .string ⟨#[]⟩, .string ⟨#[]⟩, .slice none 0 0]), 4, 64) := by kernel_rfl
theorem made_get (z : Array Value) (n i j : Nat) (hj : j < n) (hi : i < z.size) : (madeCells z (n * z.size))[j * z.size + i]? = z[i]? := by
  unfold madeCells
  have h1 : j * z.size + i < n * z.size := by
    have : (j + 1) * z.size ≤ n * z.size := Nat.mul_le_mul_right _ hj
    rw [Nat.add_mul] at this
    omega
  rw [Array.getElem?_map, Array.getElem?_range, if_pos h1, Option.map_some, Nat.add_comm, Nat.add_mul_mod_self_right, Nat.mod_eq_of_lt hi]
  simp [hi]
theorem make_tbs (l : List (Int × ByteArray)) (w : World) (hn : l.length ≤ 4096) : ∃ cs, (Instr.makeSlice 113 (.int .i64 (l.length : Nat)) (.int .i64 (l.length : Nat))).run Tryz.prog w = .ok (.slice (some ⟨w.heap.size, 0, none⟩) l.length l.length) (w.alloc (.cells cs 140)) ∧ Made l 0 cs := by
  obtain ⟨i0, hi0, hz0, hz1, hz2⟩ := info_parts infoTb
  have := run_make (P := Tryz.prog) w 113 140 i0 _ Tryz.underlying113 hi0 hz0 .i64 .i64 (l.length : Nat) (l.length : Nat) (by omega) (by omega) (by rw [hz2]; omega) (by omega)
  refine ⟨_, this, ?_, fun j _ hj => absurd hj (by omega), fun j hj => ?_⟩
  · rw [hz1]
    simp [madeCells]
  · rw [hz1]
    have h2 := made_get #[.int .i64 0, .string ⟨#[]⟩, .string ⟨#[]⟩, .slice none 0 0] l.length 2 j hj (by simp)
    have h3 := made_get #[.int .i64 0, .string ⟨#[]⟩, .string ⟨#[]⟩, .slice none 0 0] l.length 3 j hj (by simp)
    exact ⟨h2, h3⟩
theorem fresh_any (A : Option Addr) (c : Nat) (l : List (Int × ByteArray)) (w : World) (hl : Uns w A l) (hn : l.length ≤ 4096) :
    Calls Tryz.prog 60 #[.slice A l.length c] w fun e w' => ∃ g, e = .returned (.slice (some ⟨g, 0, none⟩) l.length l.length) ∧ Tbs w' (fun k => k = g) (some ⟨g, 0, none⟩) (l.map newT) ∧ Below w.heap.size w w' ∧ w.heap.size ≤ g := by
  have HL := Lib.hid hl
  clear hl
  have HB0 := Lib.hid (Below.refl w.heap.size w)
  obtain ⟨cs, hmk, hf⟩ := make_tbs l w hn
  have HF := Lib.hid hf; clear hf
  go_enter Tryz.func60, Tryz.ntmps60
  go_wp2_with (fail)
  have HK0 := Lib.hid (Blk.new w 140 cs)
  have HBA := Lib.hid (HB0.out.alloc HB0.out.size (.cells cs 140))
  clear hmk HB0
  generalize w.alloc (.cells cs 140) = w0 at *
  go_loopw [11] (fun i wr => ∃ (k : Nat) (cs : Array Value), i = .int .i64 k ∧ k ≤ l.length ∧ Blk wr w.heap.size 140 cs ∧ Made l k cs ∧ Below w.heap.size w wr) (fun i _ => l.length - (intOf i).toNat)
  case atStart => exact ⟨0, cs, rfl, Nat.zero_le _, HK0.out, HF.out, HBA.out⟩
  case round =>
    obtain ⟨k, cs, rfl, hk, hbk, hm, hb⟩ := hrel
    have HK := Lib.hid hbk; have HM := Lib.hid hm; have HB := Lib.hid hb
    clear hbk hm hb
    by_cases hlt : k < l.length
    · have hki : (k : Int) < l.length := by omega
      obtain ⟨b, o, u, rfl, hat, c0, c1⟩ := (HL.out.below HB.out).at_ hlt
      have HST := Lib.hid (HM.out.step hlt hat)
      have hz := HM.out.size
      have d0 : wr.cell? ⟨w.heap.size, k * 4, none⟩ = some cs[k * 4] := (HK.out.cell _).trans (Array.getElem?_eq_getElem (by omega))
      have d1 : wr.cell? ⟨w.heap.size, k * 4 + 1, none⟩ = some cs[k * 4 + 1] := (HK.out.cell _).trans (Array.getElem?_eq_getElem (by omega))
      generalize cs[k * 4] = v0 at d0
      generalize cs[k * 4 + 1] = v1 at d1
      have f0 := HK.out.free (k * 4)
      have f1 := HK.out.free (k * 4 + 1)
      have hlt2 := HK.out.lt
      obtain ⟨un, ui⟩ := u
      have HKA := Lib.hid (((HK.out.put (k * 4) (.int .i64 un)).put (k * 4 + 1) (.string ui)).alloc (.cells #[.int .i64 un, .string ui] 27))
      have HBB := Lib.hid (((HB.out.setCell (p := ⟨w.heap.size, k * 4, none⟩) (Nat.le_refl _) (.int .i64 un)).setCell (p := ⟨w.heap.size, k * 4 + 1, none⟩) (Nat.le_refl _) (.string ui)).alloc (by simp; exact HB.out.size) (.cells #[.int .i64 un, .string ui] 27))
      clear hat hz
      go_wp2_with (fail)
      go_roundw
      case rel => exact ⟨k + 1, _, by go_num, by omega, HKA.out, HST.out, HBB.out⟩
      case measure => simp [intOf]; omega
    · obtain rfl : k = l.length := by omega
      have hge : ¬ (l.length : Int) < l.length := by omega
      go_wp2_with (fail)
      go_ret
      refine ⟨w.heap.size, rfl, fun _ => ⟨w.heap.size, 0, rfl, rfl, fun j t hj => ?_⟩, HB.out, Nat.le_refl _⟩
      rw [List.getElem?_map] at hj
      cases hu : l[j]? with
      | none => rw [hu] at hj; cases hj
      | some u =>
        rw [hu] at hj
        obtain rfl := Option.some.inj hj
        have hjl := (List.getElem?_eq_some_iff.1 hu).1
        obtain ⟨a0, a1⟩ := HM.out.done j u hjl hu
        obtain ⟨a2, a3⟩ := HM.out.rest j hjl
        rw [Nat.zero_add]
        exact ⟨none, 0, (HK.out.cell _).trans a0, (HK.out.cell _).trans a1, (HK.out.cell _).trans a2, (HK.out.cell _).trans a3, Ext.Exts.nil _ _, fun a ha _ => by cases ha⟩
end Go.Proofs.YtglfjlbhjaemgaaGreatDoor
