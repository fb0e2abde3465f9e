/- store: the journal's base as a text. store: the tables that a base tells. -/
import Derived.Test.YtglfjlbhjaemgaaGreatDoorPl27
import Derived.Test.YtglfjlbhjaemgaaGreatDoorPl30
import Derived.Test.YtglfjlbhjaemgaaGreatDoorPl01
namespace Go.Proofs.YtglfjlbhjaemgaaGreatDoor
open Go.RowKit
open Ext (Ex Exts exV app_list list_size app_nil textX builder_below builder_new)
def hgstS : ByteArray := ⟨#[72, 71, 83, 84]⟩
def parB (p : ByteArray) : ByteArray := putHi p.size 4 ++ p
def pcB (p q r : ByteArray) : Nat → ByteArray
  | 0 => ⟨#[]⟩
  | 1 => parB p
  | 2 => parB p ++ parB q
  | _ => parB p ++ parB q ++ parB r
def unitB (t : Tb) : ByteArray := t.id ++ putHi t.n.toNat 4
def tbB (t : Tb) : ByteArray := pcB (unitB t) t.rc (textX t.ex) 3
def catB : List Tb → ByteArray
  | [] => ⟨#[]⟩
  | t :: l => tbB t ++ catB l
def accB (l : List Tb) (k : Nat) : ByteArray := hgstS ++ catB (l.take k)
def baseB (l : List Tb) : ByteArray := hgstS ++ catB l
theorem nil_app (a : ByteArray) : (⟨#[]⟩ : ByteArray) ++ a = a := by apply Ext.bytes_ext; rw [app_list]; rfl
theorem catB_snoc (l : List Tb) (t : Tb) : catB (l ++ [t]) = catB l ++ tbB t := by
  induction l with
  | nil => show tbB t ++ ⟨#[]⟩ = ⟨#[]⟩ ++ tbB t; rw [nil_app, app_nil]
  | cons y l ih => show tbB y ++ catB (l ++ [t]) = tbB y ++ catB l ++ tbB t; rw [ih, ByteArray.append_assoc]
theorem accB_next {l : List Tb} {k : Nat} {t : Tb} (h : l[k]? = some t) : accB l (k + 1) = accB l k ++ tbB t := by
  unfold accB
  rw [List.take_add_one, h, Option.toList_some, catB_snoc, ByteArray.append_assoc]
theorem putHi4' (x : Nat) : (putHi x 4).size = 4 := Ext.putHi4 x
theorem parB_size (p : ByteArray) : (parB p).size = 4 + p.size := by unfold parB; rw [ByteArray.size_append, putHi4']
theorem pcB_size (p q r : ByteArray) (j : Nat) : (pcB p q r j).size ≤ 12 + p.size + q.size + r.size := by
  unfold pcB
  split
  · exact Nat.zero_le _
  · rw [parB_size]; omega
  · rw [ByteArray.size_append, parB_size, parB_size]; omega
  · rw [ByteArray.size_append, ByteArray.size_append, parB_size, parB_size, parB_size]; omega
theorem unitB_size {t : Tb} (h : t.Ok) : (unitB t).size = 20 := by unfold unitB; rw [ByteArray.size_append, putHi4', h.id]
theorem text_small {t : Tb} (h : t.Ok) : (textX t.ex).size ≤ 49156 := by rw [Ext.textX_size]; have := h.len; omega
theorem tbB_size {t : Tb} (h : t.Ok) : (tbB t).size ≤ 52000 := by
  have h1 := pcB_size (unitB t) t.rc (textX t.ex) 3
  have h2 := unitB_size h
  have h3 := text_small h
  have h4 := h.rc
  unfold tbB
  omega
theorem catB_size : ∀ {l : List Tb}, (∀ t ∈ l, t.Ok) → (catB l).size ≤ l.length * 52000
  | [], _ => Nat.zero_le _
  | t :: l, h => by
    have h1 := tbB_size (h t (List.mem_cons_self ..))
    have h2 := catB_size (fun s hs => h s (List.mem_cons_of_mem _ hs))
    show (tbB t ++ catB l).size ≤ _
    rw [ByteArray.size_append, List.length_cons, Nat.add_mul]
    omega
theorem accB_size {l : List Tb} (h : ∀ t ∈ l, t.Ok) (k : Nat) : (accB l k).size ≤ 4 + l.length * 52000 := by
  unfold accB
  have h1 := catB_size (l := l.take k) (fun t ht => h t (List.mem_of_mem_take ht))
  have h2 : (l.take k).length * 52000 ≤ l.length * 52000 := Nat.mul_le_mul_right _ (by rw [List.length_take]; omega)
  rw [ByteArray.size_append, show hgstS.size = 4 from rfl]
  omega
theorem pcB_next (p q r : ByteArray) : pcB p q r 0 ++ (putHi p.size 4 ++ p) = pcB p q r 1 ∧ pcB p q r 1 ++ (putHi q.size 4 ++ q) = pcB p q r 2 ∧ pcB p q r 2 ++ (putHi r.size 4 ++ r) = pcB p q r 3 := ⟨nil_app _, rfl, rfl⟩
theorem index157_0 (p q r : ByteArray) (v : World) : Sem.run Tryz.prog (Instr.index 220 (.agg #[.string p, .string q, .string r]) (.int .i64 0)) v = .ok (.string p) v := by kernel_rfl
theorem index157_1 (p q r : ByteArray) (v : World) : Sem.run Tryz.prog (Instr.index 220 (.agg #[.string p, .string q, .string r]) (.int .i64 1)) v = .ok (.string q) v := by kernel_rfl
theorem index157_2 (p q r : ByteArray) (v : World) : Sem.run Tryz.prog (Instr.index 220 (.agg #[.string p, .string q, .string r]) (.int .i64 2)) v = .ok (.string r) v := by kernel_rfl
theorem build157 (p q r : ByteArray) (v : World) : Sem.run Tryz.prog (Instr.build 220 #[(0, .string p), (1, .string q), (2, .string r)]) v = .ok (.agg #[.string p, .string q, .string r]) v := by kernel_rfl
/-- One part is written: its length, and itself. -/
def PtAt (w : World) (l : List Tb) (k : Nat) (p q r : ByteArray) (i : Value) (v : World) : Prop :=
  ∃ j : Nat, i = .int .i64 j ∧ j ≤ 3 ∧ Lib.IsBuilderF 207 5 w.heap.size w.heap.size (Lib.byteCells (accB l k ++ pcB p q r j).data.toList) v ∧ Below w.heap.size w v
def BsAt (w : World) (l : List Tb) (i : Value) (v : World) : Prop :=
  ∃ k : Nat, i = .int .i64 k ∧ k ≤ l.length ∧ Lib.IsBuilderF 207 5 w.heap.size w.heap.size (Lib.byteCells (accB l k).data.toList) v ∧ Below w.heap.size w v
theorem textV_good {l : List Ex} (h : Ext.goodB l = true) : Ext.textV l = .tuple #[.string (textX l), .int .i64 0] := by unfold Ext.textV; rw [if_pos h]
set_option maxRecDepth 100000 in
set_option maxHeartbeats 4000000 in
theorem base_text (L : Nat → Prop) (A : Option Addr) (c : Nat) (l : List Tb) (w : World) (hl : Tbs w L A l) (ho : ∀ t ∈ l, t.Ok) (hn : l.length ≤ 8) :
    Calls Tryz.prog 65 #[.slice A l.length c] w fun e w' => e = .returned (.string (baseB l)) ∧ Below w.heap.size w w' := by
  have HL := Lib.hid hl
  have HO := Lib.hid ho
  clear hl ho
  go_enter Tryz.func65, Tryz.ntmps65
  go_wp2_with (fail)
  have HB0 := Lib.hid (builder_new w)
  have HBe := Lib.hid ((Below.refl w.heap.size w).alloc (Nat.le_refl _) (.cells #[.pointer none, .slice none 0 0] 207))
  refine (Tryz.Builder_WriteString_k _ _ _ ⟨#[72, 71, 83, 84]⟩ _ HB0.out (by decide) HBe.out.size).mono ?_; rintro e w3 ⟨rfl, hB3, hb3, _⟩
  have HG := Lib.hid (HBe.out.trans hb3)
  have HD3 := Lib.hid (show Lib.IsBuilderF 207 5 w.heap.size w.heap.size (Lib.byteCells (accB l 0).data.toList) w3 by
    have e : accB l 0 = hgstS := by unfold accB; rw [List.take_zero]; exact app_nil _
    rw [e]
    exact .inr (by simpa [Lib.strCells_eq, hgstS] using hB3))
  clear hb3 hB3
  go_wp2_with (fail)
  go_loopw [13] (fun i v => BsAt w l i v) (fun i _ => l.length - (intOf i).toNat)
  case atStart => exact ⟨0, rfl, Nat.zero_le _, HD3.out, HG.out⟩
  case round =>
    obtain ⟨k, rfl, hk, hbd, hbl⟩ := hrel
    have HBD := Lib.hid hbd; have HBL := Lib.hid hbl
    clear hbd hbl HD3
    generalize wr = W at *
    by_cases hlt : k < l.length
    · have hki : (k : Int) < l.length := by omega
      obtain ⟨b, o, t, E, ce, rfl, hat, c0, c1, c2, c3, he, _⟩ := (HL.out.below HBL.out).at_ hlt
      have HN := Lib.hid (accB_next hat)
      have HT := Lib.hid (HO.out t (List.mem_of_getElem? hat))
      have HSZ := Lib.hid (accB_size HO.out k)
      have hb1 := (Below.refl W.heap.size W).alloc (Nat.le_refl _) (.cells #[.int .i64 t.n, .string t.id, .string t.rc, .slice E t.ex.length ce] 140)
      obtain ⟨W1, hW1⟩ : ∃ W1, W1 = W.alloc (.cells #[.int .i64 t.n, .string t.id, .string t.rc, .slice E t.ex.length ce] 140) := ⟨_, rfl⟩
      have HNB := Lib.hid (Blk.new W 140 #[.int .i64 t.n, .string t.id, .string t.rc, .slice E t.ex.length ce])
      rw [← hW1] at hb1 HNB
      have HD1 := Lib.hid (builder_below HBD.out hb1)
      have HB1 := Lib.hid (HBL.out.trans (hb1.mono HBL.out.size))
      have HE := Lib.hid (he.below hb1)
      have HTX := Lib.hid (textV_good HT.out.good ▸ Ext.text_any E ce t.ex W1 HE.out (by have := HT.out.len; omega))
      clear hat he hb1
      go_wp2_with (fail)
      rw [← hW1]
      refine HTX.out.mono ?_; rintro e w5 ⟨rfl, hb5⟩
      have HD5 := Lib.hid (builder_below HD1.out hb5)
      have HB5 := Lib.hid (HB1.out.trans (hb5.mono HB1.out.size))
      have HN5 := Lib.hid (HNB.out.below hb5 HNB.out.lt)
      clear hb5 hW1 HTX
      go_upto_region 7 with (fail)
      have HC0 := Lib.hid (Below.refl w5.heap.size w5).drew
      have HLC : Hid (∀ v, Below w5.heap.size w5 v → v.cell? ⟨W.heap.size, 1, none⟩ = some (.string t.id) ∧ v.cell? ⟨W.heap.size, 0, none⟩ = some (.int .i64 t.n) ∧ v.cell? ⟨W.heap.size, 2, none⟩ = some (.string t.rc)) := Lib.hid fun v hv => by
        have k0 := HN5.out.cell 0
        have k1 := HN5.out.cell 1
        have k2 := HN5.out.cell 2
        exact ⟨(hv.cell (World.block_lt_of_cell? _ _ k1)).trans k1, (hv.cell (World.block_lt_of_cell? _ _ k0)).trans k0, (hv.cell (World.block_lt_of_cell? _ _ k2)).trans k2⟩
      have hn1 := HT.out.n1
      have hn2 := HT.out.n2
      have HWD : Hid (∀ v, Calls Tryz.prog 121 #[.int .i64 t.n] v fun e w' => e = .returned (.string (putHi t.n.toNat 4)) ∧ Below v.heap.size v w') := Lib.hid fun v => by
        have := word_any t.n.toNat (by omega) v
        rwa [Int.toNat_of_nonneg (by omega)] at this
      refine wp_region_class (fun v => Below w5.heap.size w5 v) (by kernel_rfl) (by kernel_rfl) HC0.out ?_
      go_big_quiet_want
      go_big_quiet_op
      first | go_big_quiet_on | (refine ⟨_, fun _ _ => rfl, ?_⟩; go_big_quiet_on)
      go_big_quiet_want
      go_big_quiet_op
      first | go_big_quiet_on | (refine ⟨_, fun _ _ => rfl, ?_⟩; go_big_quiet_on)
      go_big_quiet_want
      refine quiet_run (v := .string t.id) (fun v hv => by obtain ⟨k0, k1, k2⟩ := HLC.out v hv; go_simp) ?_
      simp only [Act.put, List.setIfInBounds_toArray, List.set_cons_zero, List.set_cons_succ]
      go_big_quiet_on
      go_big_quiet_want
      go_big_quiet_op
      first | go_big_quiet_on | (refine ⟨_, fun _ _ => rfl, ?_⟩; go_big_quiet_on)
      go_big_quiet_want
      go_big_quiet_op
      first | go_big_quiet_on | (refine ⟨_, fun _ _ => rfl, ?_⟩; go_big_quiet_on)
      go_big_quiet_want
      refine quiet_run (v := .int .i64 t.n) (fun v hv => by obtain ⟨k0, k1, k2⟩ := HLC.out v hv; go_simp) ?_
      simp only [Act.put, List.setIfInBounds_toArray, List.set_cons_zero, List.set_cons_succ]
      go_big_quiet_on
      go_big_quiet_want
      refine quiet_call (f := 121) (args := #[.int .i64 t.n]) (fun v _ => by go_simp) (fun v hv => (HWD.out v).mono (fun e w2 h => ⟨h.1, hv.trans (h.2.mono hv.size)⟩)) ?_
      simp only [Act.put, List.setIfInBounds_toArray, List.set_cons_zero, List.set_cons_succ]
      go_big_quiet_on
      go_big_quiet_want
      refine quiet_run (v := .string (unitB t)) (fun v hv => by unfold unitB; go_simp; rw [HT.out.id, putHi4']; omega) ?_
      simp only [Act.put, List.setIfInBounds_toArray, List.set_cons_zero, List.set_cons_succ]
      go_big_quiet_on
      go_big_quiet_want
      go_big_quiet_op
      first | go_big_quiet_on | (refine ⟨_, fun _ _ => rfl, ?_⟩; go_big_quiet_on)
      go_big_quiet_want
      refine quiet_run (v := .string t.rc) (fun v hv => by obtain ⟨k0, k1, k2⟩ := HLC.out v hv; go_simp) ?_
      simp only [Act.put, List.setIfInBounds_toArray, List.set_cons_zero, List.set_cons_succ]
      go_big_quiet_on
      go_big_quiet_want
      go_big_quiet_op
      first | go_big_quiet_on | (refine ⟨_, fun _ _ => rfl, ?_⟩; go_big_quiet_on)
      go_big_quiet_want
      refine quiet_run (v := .agg #[.string (unitB t), .string t.rc, .string (textX t.ex)]) (fun v hv => by have hbld := build157 (unitB t) t.rc (textX t.ex) v; go_simp) ?_
      simp only [Act.put, List.setIfInBounds_toArray, List.set_cons_zero, List.set_cons_succ]
      go_big_quiet_on
      go_big_quiet_want
      go_big_quiet_op
      first | go_big_quiet_on | (refine ⟨_, fun _ _ => rfl, ?_⟩; go_big_quiet_on)
      intro v hv
      have HDv := Lib.hid (builder_below HD5.out hv)
      have HBv := Lib.hid (HB5.out.trans (hv.mono HB5.out.size))
      have hps := Nat.le_of_eq (unitB_size HT.out)
      have hqs := HT.out.rc
      have hrs := text_small HT.out
      have HN' := Lib.hid (show accB l (k + 1) = accB l k ++ pcB (unitB t) t.rc (textX t.ex) 3 from HN.out)
      clear hv HC0 HLC HWD HD5 HB5 hn1 hn2 HN5 HN HE
      generalize unitB t = p at *
      generalize t.rc = q at *
      generalize textX t.ex = r at *
      obtain ⟨n0, n1, n2⟩ := pcB_next p q r
      have HP0 := Lib.hid n0; have HP1 := Lib.hid n1; have HP2 := Lib.hid n2
      clear n0 n1 n2
      go_wp2_with (fail)
      go_loopw [35] (fun i v => PtAt w l k p q r i v) (fun i _ => 3 - (intOf i).toNat)
      case atStart => exact ⟨0, rfl, by omega, by rw [show pcB p q r 0 = ⟨#[]⟩ from rfl, app_nil]; exact HDv.out, HBv.out⟩
      case round =>
        obtain ⟨j, rfl, hj, hbd, hbl⟩ := hrel
        have HVD := Lib.hid hbd; have HVL := Lib.hid hbl
        clear hbd hbl
        by_cases hj3 : j < 3
        · have hji : (j : Int) < 3 := by omega
          have hj0 : (0 : Int) ≤ (j : Int) := by omega
          have HPS := Lib.hid (pcB_size p q r j)
          rcases (show j = 0 ∨ j = 1 ∨ j = 2 by omega) with rfl | rfl | rfl
          · have hix := index157_0 p q r wr
            have HWD := Lib.hid (fun v => word_any p.size (by omega) v)
            have q4 := putHi4' p.size
            clear hj hj3
            go_wp2_with (fail)
            refine (HWD.out _).mono ?_; rintro e w5 ⟨rfl, hb5⟩
            have HVD5 := Lib.hid (builder_below HVD.out hb5)
            have HVL5 := Lib.hid (HVL.out.trans (hb5.mono HVL.out.size))
            clear hb5
            go_wp2_with (fail)
            refine (Tryz.Builder_WriteString_k _ _ _ _ _ HVD5.out (by have := HSZ.out; have := HPS.out; rw [q4, Lib.byteCells_length, list_size, ByteArray.size_append]; omega) HVL5.out.size).mono ?_; rintro e w6 ⟨rfl, hB6, hb6, _⟩
            have HVL6 := Lib.hid (HVL5.out.trans hb6)
            rw [Lib.strCells_eq, ← Lib.byteCells_append, ← app_list] at hB6
            have HVD6 := Lib.hid (show Lib.IsBuilderF 207 5 w.heap.size w.heap.size (Lib.byteCells (accB l k ++ pcB p q r 0 ++ putHi p.size 4).data.toList) w6 from .inr hB6)
            clear hB6 hb6
            go_wp2_with (fail)
            refine (Tryz.Builder_WriteString_k _ _ _ _ _ HVD6.out (by have := HSZ.out; have := HPS.out; rw [Lib.byteCells_length, list_size, ByteArray.size_append, ByteArray.size_append, q4]; omega) HVL6.out.size).mono ?_; rintro e w7 ⟨rfl, hB7, hb7, _⟩
            have HVL7 := Lib.hid (HVL6.out.trans hb7)
            rw [Lib.strCells_eq, ← Lib.byteCells_append, ← app_list] at hB7
            have HVD7 := Lib.hid (show Lib.IsBuilderF 207 5 w.heap.size w.heap.size (Lib.byteCells (accB l k ++ pcB p q r 1).data.toList) w7 by
              rw [← HP0.out, ← ByteArray.append_assoc, ← ByteArray.append_assoc]; exact .inr hB7)
            clear hB7 hb7
            go_wp2_with (fail)
            go_roundw
            case rel => exact ⟨1, by go_num, by omega, HVD7.out, HVL7.out⟩
            case measure => simp [intOf]
          · have hix := index157_1 p q r wr
            have HWD := Lib.hid (fun v => word_any q.size (by omega) v)
            have q4 := putHi4' q.size
            clear hj hj3
            go_wp2_with (fail)
            refine (HWD.out _).mono ?_; rintro e w5 ⟨rfl, hb5⟩
            have HVD5 := Lib.hid (builder_below HVD.out hb5)
            have HVL5 := Lib.hid (HVL.out.trans (hb5.mono HVL.out.size))
            clear hb5
            go_wp2_with (fail)
            refine (Tryz.Builder_WriteString_k _ _ _ _ _ HVD5.out (by have := HSZ.out; have := HPS.out; rw [q4, Lib.byteCells_length, list_size, ByteArray.size_append]; omega) HVL5.out.size).mono ?_; rintro e w6 ⟨rfl, hB6, hb6, _⟩
            have HVL6 := Lib.hid (HVL5.out.trans hb6)
            rw [Lib.strCells_eq, ← Lib.byteCells_append, ← app_list] at hB6
            have HVD6 := Lib.hid (show Lib.IsBuilderF 207 5 w.heap.size w.heap.size (Lib.byteCells (accB l k ++ pcB p q r 1 ++ putHi q.size 4).data.toList) w6 from .inr hB6)
            clear hB6 hb6
            go_wp2_with (fail)
            refine (Tryz.Builder_WriteString_k _ _ _ _ _ HVD6.out (by have := HSZ.out; have := HPS.out; rw [Lib.byteCells_length, list_size, ByteArray.size_append, ByteArray.size_append, q4]; omega) HVL6.out.size).mono ?_; rintro e w7 ⟨rfl, hB7, hb7, _⟩
            have HVL7 := Lib.hid (HVL6.out.trans hb7)
            rw [Lib.strCells_eq, ← Lib.byteCells_append, ← app_list] at hB7
            have HVD7 := Lib.hid (show Lib.IsBuilderF 207 5 w.heap.size w.heap.size (Lib.byteCells (accB l k ++ pcB p q r 2).data.toList) w7 by
              rw [← HP1.out, ← ByteArray.append_assoc, ← ByteArray.append_assoc]; exact .inr hB7)
            clear hB7 hb7
            go_wp2_with (fail)
            go_roundw
            case rel => exact ⟨2, by go_num, by omega, HVD7.out, HVL7.out⟩
            case measure => simp [intOf]
          · have hix := index157_2 p q r wr
            have HWD := Lib.hid (fun v => word_any r.size (by omega) v)
            have q4 := putHi4' r.size
            clear hj hj3
            go_wp2_with (fail)
            refine (HWD.out _).mono ?_; rintro e w5 ⟨rfl, hb5⟩
            have HVD5 := Lib.hid (builder_below HVD.out hb5)
            have HVL5 := Lib.hid (HVL.out.trans (hb5.mono HVL.out.size))
            clear hb5
            go_wp2_with (fail)
            refine (Tryz.Builder_WriteString_k _ _ _ _ _ HVD5.out (by have := HSZ.out; have := HPS.out; rw [q4, Lib.byteCells_length, list_size, ByteArray.size_append]; omega) HVL5.out.size).mono ?_; rintro e w6 ⟨rfl, hB6, hb6, _⟩
            have HVL6 := Lib.hid (HVL5.out.trans hb6)
            rw [Lib.strCells_eq, ← Lib.byteCells_append, ← app_list] at hB6
            have HVD6 := Lib.hid (show Lib.IsBuilderF 207 5 w.heap.size w.heap.size (Lib.byteCells (accB l k ++ pcB p q r 2 ++ putHi r.size 4).data.toList) w6 from .inr hB6)
            clear hB6 hb6
            go_wp2_with (fail)
            refine (Tryz.Builder_WriteString_k _ _ _ _ _ HVD6.out (by have := HSZ.out; have := HPS.out; rw [Lib.byteCells_length, list_size, ByteArray.size_append, ByteArray.size_append, q4]; omega) HVL6.out.size).mono ?_; rintro e w7 ⟨rfl, hB7, hb7, _⟩
            have HVL7 := Lib.hid (HVL6.out.trans hb7)
            rw [Lib.strCells_eq, ← Lib.byteCells_append, ← app_list] at hB7
            have HVD7 := Lib.hid (show Lib.IsBuilderF 207 5 w.heap.size w.heap.size (Lib.byteCells (accB l k ++ pcB p q r 3).data.toList) w7 by
              rw [← HP2.out, ← ByteArray.append_assoc, ← ByteArray.append_assoc]; exact .inr hB7)
            clear hB7 hb7
            go_wp2_with (fail)
            go_roundw
            case rel => exact ⟨3, by go_num, by omega, HVD7.out, HVL7.out⟩
            case measure => simp [intOf]
        · obtain rfl : j = 3 := by omega
          clear hj hj3
          go_wp2_with (fail)
          go_roundw
          case rel => exact ⟨k + 1, by go_num, by omega, by rw [HN'.out]; exact HVD.out, HVL.out⟩
          case measure => simp [intOf]; omega
    · obtain rfl : k = l.length := by omega
      have hge : ¬ (l.length : Int) < l.length := by omega
      have HBE := Lib.hid (show Lib.IsBuilderF 207 5 w.heap.size w.heap.size (Lib.byteCells (baseB l).data.toList) W by
        have := HBD.out
        unfold accB at this
        rw [List.take_length] at this
        exact this)
      go_wp2_with (fail)
      refine (Tryz.Builder_String_any_kk _ _ _ _ HBE.out HBL.out.size).mono ?_; rintro e w5 ⟨rfl, hb5⟩
      have HBL5 := Lib.hid (HBL.out.trans hb5)
      clear hb5
      go_wp2_with (fail)
      go_ret
      exact ⟨rfl, HBL5.out⟩
open Go.RowKit
open Ext (Ex Exts exV app_list list_size app_nil textX n4)
theorem par_n4 (p r : ByteArray) (h : p.size < 4294967296) : n4 (parB p ++ r) 0 = p.size := by
  have := Ext.n4_val (parB p ++ r) [] (p.data.toList ++ r.data.toList) p.size 0 h rfl (by
    unfold parB
    rw [app_list, app_list, Ext.put4, List.nil_append, List.append_assoc])
  simpa using this
theorem par_ext (p r : ByteArray) : (parB p ++ r).extract 4 (4 + p.size) = p ∧ (parB p ++ r).extract (4 + p.size) (parB p ++ r).size = r := by
  have h4 := putHi4' p.size
  refine ⟨?_, ?_⟩
  · unfold parB
    rw [ByteArray.append_assoc, extR _ _ _ _ (by omega), h4]
    exact extHead p r _ _ (by omega) (by omega)
  · rw [extR _ _ _ _ (by rw [parB_size]; omega), parB_size, ByteArray.size_append, parB_size]
    rw [show 4 + p.size - (4 + p.size) = 0 by omega, show 4 + p.size + r.size - (4 + p.size) = r.size by omega]
    exact ByteArray.extract_zero_size
set_option maxHeartbeats 1000000 in
theorem cut_any (p r : ByteArray) (w : World) (hs : (parB p ++ r).size ≤ 1000000) :
    Calls Tryz.prog 239 #[.string (parB p ++ r)] w fun e w' => e = .returned (.tuple #[.string p, .string r, .bool true]) ∧ Below w.heap.size w w' := by
  have hz : (parB p ++ r).size = 4 + p.size + r.size := by rw [ByteArray.size_append, parB_size]
  obtain ⟨e1, e2⟩ := par_ext p r
  have hb := fun v => big_any (parB p ++ r) 0 4 v (by unfold maxLen; omega)
  rw [show bigR (parB p ++ r) 0 4 = p.size from par_n4 p r (by omega), show okB (parB p ++ r) 0 4 = true from okB_yes (by omega)] at hb
  have HB := Lib.hid hb
  have HE1 := Lib.hid e1
  have HE2 := Lib.hid e2
  clear hb
  obtain ⟨s, hs0⟩ : ∃ s, parB p ++ r = s := ⟨_, rfl⟩
  rw [hs0] at HB HE1 HE2 hz hs ⊢
  rw [hs0] at e1 e2
  clear hs0
  have hnot : ∀ (x : Bool) (w : World), (Op.unary .not (.bool x)).run Tryz.prog w = .ok (.bool (!x)) w := fun _ _ => rfl
  have w1 : IntKind.i64.wrap ((s.size : Int) - 4) = (s.size : Int) - 4 := i64w _ (by omega)
  have w2 : IntKind.u64.wrap ((s.size : Int) - 4) = (s.size : Int) - 4 := by rw [IntWalk.u64_in _ (by omega)]
  have w3 : IntKind.i64.wrap (p.size : Int) = (p.size : Int) := i64w _ (by omega)
  have w4 : IntKind.i64.wrap (4 + (p.size : Int)) = 4 + (p.size : Int) := i64w _ (by omega)
  have g1 : ¬ (s.size : Int) - 4 < (p.size : Int) := by omega
  have g2 : (4 : Int) ≤ 4 + (p.size : Int) := by omega
  have g3 : 4 + (p.size : Int) ≤ (s.size : Int) := by omega
  have g4 : (0 : Int) ≤ 4 + (p.size : Int) := by omega
  have g5 : (4 + (p.size : Int)).toNat = 4 + p.size := by omega
  clear hz hs
  go_enter Tryz.func239, Tryz.ntmps239
  go_wp2_with (fail)
  refine (HB.out _).mono ?_; rintro e w1 ⟨rfl, hb1⟩
  have H1 := Lib.hid hb1
  clear hb1
  go_upto_region 5 with (fail)
  go_quiet (fail)
  go_wp2_with (fail)
  refine bodyPost_ret (results_tmp3 rfl _ _ _) rfl ?_
  exact ⟨rfl, H1.out.trans (belDrew _ _ nq)⟩
theorem hasPre (p r : ByteArray) : Lib.hasPrefix (p ++ r).data.toList p.data.toList = true := by
  rw [app_list]
  generalize p.data.toList = a
  generalize r.data.toList = b
  unfold Lib.hasPrefix
  simp
theorem cutPre_lite (p r : ByteArray) (w : World) (hs : (p ++ r).size ≤ 1000000) :
    Calls Tryz.prog 238 #[.string (p ++ r), .string p] w fun e w' => e = .returned (.tuple #[.string r, .bool true]) ∧ w = w' := by
  have _ := hs
  have HP := Lib.hid (hasPre p r)
  have hz : (p ++ r).size = p.size + r.size := ByteArray.size_append
  have HE := Lib.hid (show (p ++ r).extract p.size (p ++ r).size = r by
    rw [extR _ _ _ _ (Nat.le_refl _), hz, Nat.sub_self, Nat.add_sub_cancel_left]
    exact ByteArray.extract_zero_size)
  obtain ⟨s, hs0⟩ : ∃ s, p ++ r = s := ⟨_, rfl⟩
  rw [hs0] at HP HE hz hs ⊢
  have e1 := HE.out
  clear hs0
  have hnot : ∀ (x : Bool) (w : World), (Op.unary .not (.bool x)).run Tryz.prog w = .ok (.bool (!x)) w := fun _ _ => rfl
  have g1 : (p.size : Int) ≤ (s.size : Int) := by omega
  have g0 : (0 : Int) ≤ (p.size : Int) := by omega
  have HH := Lib.hid (HP.out ▸ Tryz.stringslite_HasPrefix s p w)
  clear hz hs
  go_enter Tryz.func238, Tryz.ntmps238
  go_wp2_with (fail)
  refine HH.out.mono ?_; rintro e w' ⟨rfl, rfl⟩
  go_wp2_with (fail)
  go_ret2
  exact ⟨rfl, rfl⟩
theorem cutPre_any (p r : ByteArray) (w : World) (hs : (p ++ r).size ≤ 1000000) :
    Calls Tryz.prog 219 #[.string (p ++ r), .string p] w fun e w' => e = .returned (.tuple #[.string r, .bool true]) ∧ w = w' := by
  have H := Lib.hid (cutPre_lite p r w hs)
  clear hs
  generalize p ++ r = s at *
  go_enter Tryz.func219, Tryz.ntmps219
  go_wp2_with (fail)
  refine H.out.mono ?_; rintro e w' ⟨rfl, rfl⟩
  go_wp2_with (fail)
  go_ret2
  exact ⟨rfl, rfl⟩
theorem heap_set4 {w : World} {g h : Nat} (hne : h ≠ g) (a b c d : Value) : ((((w.setCell ⟨g, 0, none⟩ a).setCell ⟨g, 1, none⟩ b).setCell ⟨g, 2, none⟩ c).setCell ⟨g, 3, none⟩ d).heap[h]? = w.heap[h]? := by
  rw [Below.heap_setCell _ _ _ _ hne, Below.heap_setCell _ _ _ _ hne, Below.heap_setCell _ _ _ _ hne, Below.heap_setCell _ _ _ _ hne]
theorem cell_set4 {w : World} {g h : Nat} (hne : h ≠ g) (a b c d : Value) (i : Nat) : ((((w.setCell ⟨g, 0, none⟩ a).setCell ⟨g, 1, none⟩ b).setCell ⟨g, 2, none⟩ c).setCell ⟨g, 3, none⟩ d).cell? ⟨h, i, none⟩ = w.cell? ⟨h, i, none⟩ := World.cell?_of_block (a := ⟨h, i, none⟩) (heap_set4 hne a b c d)
theorem results_cell_tmp2 {fn : Func} {p u u2 : Tmp} {ty : TypeId} (h : fn.results = #[.cell p ty, .tmp u, .tmp u2]) (tmps : Array Value) (P : Program) (w : World) :
    (results fn tmps).run P w =
      ((asAddr (tmps.getD p undef)).run P w).andThen fun a w₁ => ((loadVar ty a).run P w₁).andThen fun v w₂ => .ok (.tuple #[v, tmps.getD u undef, tmps.getD u2 undef]) w₂ := by
  simp only [results, h]
  simp [Sem.run_bind, Result.andThen]
def rstB (p q x r : ByteArray) : Nat → ByteArray
  | 0 => parB p ++ (parB q ++ (parB x ++ r))
  | 1 => parB q ++ (parB x ++ r)
  | 2 => parB x ++ r
  | _ => r
def partsA (p q x : ByteArray) : Nat → Array Value
  | 0 => #[.string ⟨#[]⟩, .string ⟨#[]⟩, .string ⟨#[]⟩]
  | 1 => #[.string p, .string ⟨#[]⟩, .string ⟨#[]⟩]
  | 2 => #[.string p, .string q, .string ⟨#[]⟩]
  | _ => #[.string p, .string q, .string x]
theorem unit_n4 {t : Tb} (h : t.Ok) : bigR (unitB t) 16 4 = t.n.toNat := by
  have h1 := h.n1
  have h2 := h.n2
  have := Ext.n4_val (unitB t) t.id.data.toList [] t.n.toNat 16 (by omega) (by rw [list_size, h.id]) (by
    unfold unitB
    rw [app_list, Ext.put4, List.append_nil])
  exact this
theorem unit_id {t : Tb} (h : t.Ok) : (unitB t).extract 0 16 = t.id := extHead _ _ _ _ rfl h.id.symm
theorem tb_rst (t : Tb) (r : ByteArray) : tbB t ++ r = rstB (unitB t) t.rc (textX t.ex) r 0 := by
  show parB _ ++ parB _ ++ parB _ ++ r = _
  simp only [rstB, ByteArray.append_assoc]
theorem two_box (w : World) (A B : Array Value) (s t : TypeId) : ∀ w0, w0 = (w.alloc (.cells A s)).alloc (.cells B t) → Blk w0 w.heap.size s A ∧ Blk w0 (w.heap.size + 1) t B ∧ Below w.heap.size w w0 := by
  rintro w0 rfl
  have h2 := Blk.new (w.alloc (.cells A s)) t B
  rw [show (w.alloc (.cells A s)).heap.size = w.heap.size + 1 by simp] at h2
  exact ⟨(Blk.new w s A).alloc _, h2, ((Below.refl w.heap.size w).alloc (Nat.le_refl _) _).alloc (by simp) _⟩
def zTb : Array Value := #[.int .i64 0, .string ⟨#[]⟩, .string ⟨#[]⟩, .slice none 0 0]
def CtAt (w : World) (p q x r : ByteArray) (c s ok : Value) (wr : World) : Prop :=
  ∃ j : Nat, c = .int .i64 j ∧ j ≤ 3 ∧ s = .string (rstB p q x r j) ∧ (0 < j → ok = .bool true) ∧ Blk wr w.heap.size 140 zTb ∧ Blk wr (w.heap.size + 1) 220 (partsA p q x j) ∧ Below w.heap.size w wr
set_option maxRecDepth 100000 in
set_option maxHeartbeats 4000000 in
theorem cut_table (t : Tb) (r : ByteArray) (w : World) (ht : t.Ok) (hs : (tbB t ++ r).size ≤ 1000000) :
    Calls Tryz.prog 220 #[.string (tbB t ++ r)] w fun e w' => ∃ E c, e = .returned (.tuple #[tbV t E c, .string r, .bool true]) ∧ Ext.ExtsF w.heap.size w' E t.ex ∧ Below w.heap.size w w' := by
  have HT := Lib.hid ht
  have n1 := ht.n1
  have n2 := ht.n2
  have HUN := Lib.hid (unit_n4 ht)
  have HUI := Lib.hid (unit_id ht)
  have hu20 := unitB_size ht
  have hq := ht.rc
  have hx := text_small ht
  have HPB := Lib.hid (Ext.parse_back ht.good)
  have HZ := Lib.hid (show (tbB t ++ r).size = (tbB t).size + r.size from ByteArray.size_append)
  have HS := Lib.hid hs
  rw [tb_rst] at hs ⊢
  clear ht
  unfold tbV
  obtain ⟨p, hp⟩ : ∃ p, unitB t = p := ⟨_, rfl⟩
  obtain ⟨x, hx0⟩ : ∃ x, textX t.ex = x := ⟨_, rfl⟩
  rw [hp] at HUN HUI hu20 hs ⊢
  rw [hx0] at HPB hx hs ⊢
  clear hp hx0 HZ
  obtain ⟨q, hq0⟩ : ∃ q, t.rc = q := ⟨_, rfl⟩
  rw [hq0] at hq hs ⊢
  clear hq0
  have HU := Lib.hid hu20
  have HR0 : Hid (∀ v, Calls Tryz.prog 239 #[.string (rstB p q x r 0)] v fun e w' => e = .returned (.tuple #[.string p, .string (rstB p q x r 1), .bool true]) ∧ Below v.heap.size v w') := Lib.hid (fun v => cut_any p (parB q ++ (parB x ++ r)) v hs)
  have hs1 : (parB q ++ (parB x ++ r)).size ≤ 1000000 := by have h := hs; rw [show rstB p q x r 0 = parB p ++ (parB q ++ (parB x ++ r)) from rfl, ByteArray.size_append] at h; omega
  have hs2 : (parB x ++ r).size ≤ 1000000 := by have h := hs1; rw [ByteArray.size_append] at h; omega
  have HR1 : Hid (∀ v, Calls Tryz.prog 239 #[.string (rstB p q x r 1)] v fun e w' => e = .returned (.tuple #[.string q, .string (rstB p q x r 2), .bool true]) ∧ Below v.heap.size v w') := Lib.hid (fun v => cut_any q (parB x ++ r) v hs1)
  have HR2 : Hid (∀ v, Calls Tryz.prog 239 #[.string (rstB p q x r 2)] v fun e w' => e = .returned (.tuple #[.string x, .string (rstB p q x r 3), .bool true]) ∧ Below v.heap.size v w') := Lib.hid (fun v => cut_any x r v hs2)
  clear hs hs1 hs2 hu20
  have hnot : ∀ (x : Bool) (w : World), (Op.unary .not (.bool x)).run Tryz.prog w = .ok (.bool (!x)) w := fun _ _ => rfl
  go_enter Tryz.func220, Tryz.ntmps220
  go_wp2_with (fail)
  obtain ⟨hA, hB, hb0⟩ := two_box w zTb #[.string ⟨#[]⟩, .string ⟨#[]⟩, .string ⟨#[]⟩] 140 220 _ rfl
  have HA0 := Lib.hid hA; have HB0 := Lib.hid hB; have HL0 := Lib.hid hb0
  clear hA hB hb0
  rw [show (Obj.cells #[Value.int IntKind.i64 0, Value.string ⟨#[]⟩, Value.string ⟨#[]⟩, Value.slice none 0 0] 140) = Obj.cells zTb 140 from rfl]
  generalize (w.alloc (Obj.cells zTb 140)).alloc (Obj.cells #[Value.string ⟨#[]⟩, Value.string ⟨#[]⟩, Value.string ⟨#[]⟩] 220) = w0 at *
  go_loopw [14, 0, 4] (fun c s ok wr => CtAt w p q x r c s ok wr) (fun c _ _ _ => 3 - (intOf c).toNat)
  case atStart => exact ⟨0, rfl, by omega, rfl, fun h => absurd h (Nat.not_lt_zero _), HA0.out, HB0.out, HL0.out⟩
  case round =>
    obtain ⟨j, rfl, hj, rfl, hok, hA, hB, hb⟩ := hrel
    have HA := Lib.hid hA; have HB := Lib.hid hB; have HL := Lib.hid hb
    clear hA hB hb
    by_cases hj3 : j < 3
    · clear hok
      have hji : (j : Int) < 3 := by omega
      rcases (show j = 0 ∨ j = 1 ∨ j = 2 by omega) with rfl | rfl | rfl
      · clear hj hj3
        go_wp2_with (fail)
        refine (HR0.out _).mono ?_; rintro e w5 ⟨rfl, hb5⟩
        have HA5 := Lib.hid (HA.out.below hb5 HA.out.lt)
        have HB5 := Lib.hid (HB.out.below hb5 HB.out.lt)
        have HL5 := Lib.hid (HL.out.trans (hb5.mono HL.out.size))
        clear hb5
        have d0 : w5.cell? ⟨w.heap.size + 1, 0, none⟩ = some (.string ⟨#[]⟩) := (HB5.out.cell 0).trans rfl
        have f0 := HB5.out.free 0
        have HB6 := Lib.hid (show Blk (w5.setCell ⟨w.heap.size + 1, 0, none⟩ (.string p)) (w.heap.size + 1) 220 (partsA p q x 1) from HB5.out.put 0 (.string p))
        have HA6 := Lib.hid (HA5.out.far (p := ⟨w.heap.size + 1, 0, none⟩) (by simp) (.string p))
        have HL6 := Lib.hid (HL5.out.setCell (p := ⟨w.heap.size + 1, 0, none⟩) (by simp) (.string p))
        go_wp2_with (fail)
        go_roundw
        case rel => exact ⟨1, by go_num, by omega, rfl, fun _ => rfl, HA6.out, HB6.out, HL6.out⟩
        case measure => simp [intOf]
      · clear hj hj3
        go_wp2_with (fail)
        refine (HR1.out _).mono ?_; rintro e w5 ⟨rfl, hb5⟩
        have HA5 := Lib.hid (HA.out.below hb5 HA.out.lt)
        have HB5 := Lib.hid (HB.out.below hb5 HB.out.lt)
        have HL5 := Lib.hid (HL.out.trans (hb5.mono HL.out.size))
        clear hb5
        have d0 : w5.cell? ⟨w.heap.size + 1, 1, none⟩ = some (.string ⟨#[]⟩) := (HB5.out.cell 1).trans rfl
        have f0 := HB5.out.free 1
        have HB6 := Lib.hid (show Blk (w5.setCell ⟨w.heap.size + 1, 1, none⟩ (.string q)) (w.heap.size + 1) 220 (partsA p q x 2) from HB5.out.put 1 (.string q))
        have HA6 := Lib.hid (HA5.out.far (p := ⟨w.heap.size + 1, 1, none⟩) (by simp) (.string q))
        have HL6 := Lib.hid (HL5.out.setCell (p := ⟨w.heap.size + 1, 1, none⟩) (by simp) (.string q))
        go_wp2_with (fail)
        go_roundw
        case rel => exact ⟨2, by go_num, by omega, rfl, fun _ => rfl, HA6.out, HB6.out, HL6.out⟩
        case measure => simp [intOf]
      · clear hj hj3
        go_wp2_with (fail)
        refine (HR2.out _).mono ?_; rintro e w5 ⟨rfl, hb5⟩
        have HA5 := Lib.hid (HA.out.below hb5 HA.out.lt)
        have HB5 := Lib.hid (HB.out.below hb5 HB.out.lt)
        have HL5 := Lib.hid (HL.out.trans (hb5.mono HL.out.size))
        clear hb5
        have d0 : w5.cell? ⟨w.heap.size + 1, 2, none⟩ = some (.string ⟨#[]⟩) := (HB5.out.cell 2).trans rfl
        have f0 := HB5.out.free 2
        have HB6 := Lib.hid (show Blk (w5.setCell ⟨w.heap.size + 1, 2, none⟩ (.string x)) (w.heap.size + 1) 220 (partsA p q x 3) from HB5.out.put 2 (.string x))
        have HA6 := Lib.hid (HA5.out.far (p := ⟨w.heap.size + 1, 2, none⟩) (by simp) (.string x))
        have HL6 := Lib.hid (HL5.out.setCell (p := ⟨w.heap.size + 1, 2, none⟩) (by simp) (.string x))
        go_wp2_with (fail)
        go_roundw
        case rel => exact ⟨3, by go_num, by omega, rfl, fun _ => rfl, HA6.out, HB6.out, HL6.out⟩
        case measure => simp [intOf]
    · obtain rfl : j = 3 := by omega
      obtain rfl := hok (by omega)
      clear hj hj3
      have a0 : wr.cell? ⟨w.heap.size + 1, 0, none⟩ = some (.string p) := (HB.out.cell 0).trans rfl
      have a1 : wr.cell? ⟨w.heap.size + 1, 1, none⟩ = some (.string q) := (HB.out.cell 1).trans rfl
      have a2 : wr.cell? ⟨w.heap.size + 1, 2, none⟩ = some (.string x) := (HB.out.cell 2).trans rfl
      go_upto_region 9 with (fail)
      go_quiet (fail)
      have HA1 := Lib.hid (HA.out.below (belDrew _ _ nq) HA.out.lt)
      have HL1 := Lib.hid (HL.out.trans (belDrew _ _ nq))
      clear a0 a1 a2
      generalize wr.drewN nq = w2 at *
      have HBG := Lib.hid (fun v => (show Calls Tryz.prog 194 #[.string p, .int .i64 16, .int .i64 4] v fun e w' => e = .returned (.tuple #[.int .u64 (t.n.toNat : Nat), .bool true]) ∧ Below v.heap.size v w' by
        have := big_any p 16 4 v (by have := HU.out; unfold maxLen; omega)
        rw [HUN.out, show okB p 16 4 = true from okB_yes (by have := HU.out; omega)] at this
        exact this))
      go_wp2_with (fail)
      refine (HBG.out _).mono ?_; rintro e w3 ⟨rfl, hb3⟩
      have HA3 := Lib.hid (HA1.out.below hb3 HA1.out.lt)
      have HL3 := Lib.hid (HL1.out.trans (hb3.mono HL1.out.size))
      clear hb3
      have hpa := Ext.parse_any x w3 (by unfold maxLen; omega)
      rw [HPB.out] at hpa
      have HPA := Lib.hid hpa
      clear hpa
      go_wp2_with (fail)
      refine HPA.out.mono ?_; rintro e w4 ⟨E, ce, rfl, he, hb4⟩
      have HE4 := Lib.hid (he.mono (C := w.heap.size + 1) HA3.out.lt)
      have HA4 := Lib.hid (HA3.out.below hb4 HA3.out.lt)
      have HL4 := Lib.hid (HL3.out.trans (hb4.mono HL3.out.size))
      clear hb4 he HPA
      have hp20 := HU.out
      have hne : ((p.size : Int) != 20) = false := by rw [bne_eq_false_iff_eq]; omega
      have hcv : IntKind.i64.wrap ((t.n.toNat : Nat) : Int) = t.n := by rw [i64w _ (by omega)]; omega
      have hcv2 : IntKind.i64.wrap (max t.n 0) = t.n := by rw [i64w _ (by omega)]; omega
      have hsl : (16 : Int) ≤ p.size := by omega
      have hui := HUI.out
      have hid16 : t.id.size ≤ 281474976710656 := by have := HT.out.id; omega
      have hq48 : q.size ≤ 281474976710656 := by omega
      clear hp20
      go_wp2_with (fail)
      refine (clone_any t.id _ hid16).mono ?_; rintro e w5 ⟨rfl, hb5⟩
      have HA5 := Lib.hid (HA4.out.below hb5 HA4.out.lt)
      have HE5 := Lib.hid (show Ext.ExtsF (w.heap.size + 1) w5 E t.ex from ⟨HE4.out.1.below hb5, HE4.out.2⟩)
      have HL5 := Lib.hid (HL4.out.trans (hb5.mono HL4.out.size))
      clear hb5 hui hid16 hsl hcv hcv2 hne
      go_upto_region 15 with (fail)
      have hnb := Blk.new w5 27 #[.int .i64 t.n, .string t.id]
      have hal := (Below.refl w5.heap.size w5).alloc (Nat.le_refl _) (.cells #[.int .i64 t.n, .string t.id] 27)
      obtain ⟨w6, hw6⟩ : ∃ w6, w6 = w5.alloc (.cells #[.int .i64 t.n, .string t.id] 27) := ⟨_, rfl⟩
      rw [← hw6] at hnb hal
      have HA6 := Lib.hid (HA5.out.below hal HA5.out.lt)
      have HE6 := Lib.hid (show Ext.ExtsF (w.heap.size + 1) w6 E t.ex from ⟨HE5.out.1.below hal, HE5.out.2⟩)
      have HL6 := Lib.hid (HL5.out.trans (hal.mono HL5.out.size))
      have HNB := Lib.hid hnb
      have c0 : w6.cell? ⟨w5.heap.size, 0, none⟩ = some (.int .i64 t.n) := (hnb.cell 0).trans rfl
      have c1 : w6.cell? ⟨w5.heap.size, 1, none⟩ = some (.string t.id) := (hnb.cell 1).trans rfl
      have hne5 : w5.heap.size ≠ w.heap.size := fun h => by have := HA5.out.lt; omega
      rw [← hw6]
      clear hw6 hnb hal HA5 HE5 HL5 HA4 HE4 HL4
      go_region_held3 (fun v => v.cell? ⟨w5.heap.size, 0, none⟩ = some (.int .i64 t.n) ∧ v.cell? ⟨w5.heap.size, 1, none⟩ = some (.string t.id)) (first | exact ⟨c0, c1⟩ | exact ⟨e0, e1⟩ | exact ⟨(cell_set4 hne5 _ _ _ _ 0).trans e0, (cell_set4 hne5 _ _ _ _ 1).trans e1⟩) (first
        | (go_at_call 83; refine (clone_any q _ hq48).mono ?_; rintro e w7 ⟨rfl, hb7⟩
           have hb8 := (Below.refl _ _).drew.trans hb7
           have HA7 := Lib.hid (HA6.out.below hb8 HA6.out.lt)
           have HE7 := Lib.hid (show Ext.ExtsF (w.heap.size + 1) w7 E t.ex from ⟨HE6.out.1.below hb8, HE6.out.2⟩)
           have HL7 := Lib.hid (HL6.out.trans (hb8.mono HL6.out.size))
           have e0 := (hb8.cell (p := ⟨w5.heap.size, 0, none⟩) (World.block_lt_of_cell? _ _ c0)).trans c0
           have e1 := (hb8.cell (p := ⟨w5.heap.size, 1, none⟩) (World.block_lt_of_cell? _ _ c1)).trans c1
           have k0 : w7.cell? ⟨w.heap.size, 0, none⟩ = some (.int .i64 0) := (HA7.out.cell 0).trans rfl
           have k1 : w7.cell? ⟨w.heap.size, 1, none⟩ = some (.string ⟨#[]⟩) := (HA7.out.cell 1).trans rfl
           have k2 : w7.cell? ⟨w.heap.size, 2, none⟩ = some (.string ⟨#[]⟩) := (HA7.out.cell 2).trans rfl
           have k3 : w7.cell? ⟨w.heap.size, 3, none⟩ = some (.slice none 0 0) := (HA7.out.cell 3).trans rfl
           have f0 := HA7.out.free 0
           have f1 := HA7.out.free 1
           have f2 := HA7.out.free 2
           have f3 := HA7.out.free 3
           clear hb7 hb8)
        | fail)
      have HL8 := Lib.hid ((((HL7.out.setCell (p := ⟨w.heap.size, 0, none⟩) (Nat.le_refl _) (.int .i64 t.n)).setCell (p := ⟨w.heap.size, 1, none⟩) (Nat.le_refl _) (.string t.id)).setCell (p := ⟨w.heap.size, 2, none⟩) (Nat.le_refl _) (.string q)).setCell (p := ⟨w.heap.size, 3, none⟩) (Nat.le_refl _) (.slice E t.ex.length ce))
      have HE8 := Lib.hid (show Ext.ExtsF w.heap.size ((((w7.setCell ⟨w.heap.size, 0, none⟩ (.int .i64 t.n)).setCell ⟨w.heap.size, 1, none⟩ (.string t.id)).setCell ⟨w.heap.size, 2, none⟩ (.string q)).setCell ⟨w.heap.size, 3, none⟩ (.slice E t.ex.length ce)) E t.ex from
        ⟨HE7.out.1.kept fun hn a ha => heap_set4 (fun h => by have := HE7.out.2 hn a ha; omega) _ _ _ _, fun hn a ha => by have := HE7.out.2 hn a ha; omega⟩)
      go_wp2_with (fail)
      refine bodyPost_ret_by (v := .tuple #[.agg #[.int .i64 t.n, .string t.id, .string q, .slice E t.ex.length ce], .string r, .bool true]) ?_ rfl ⟨E, ce, rfl, HE8.out, HL8.out⟩
      rw [results_cell_tmp2 rfl]
      go_simp
      rfl
end Go.Proofs.YtglfjlbhjaemgaaGreatDoor
