/- store: changes, as they stand in the journal; a copy of the tables. -/
import Derived.Test.YtglfjlbhjaemgaaGreatDoorPk34
import Derived.Lib.SliceRun
namespace Go.Proofs.YtglfjlbhjaemgaaGreatDoor
open Go.RowKit
open Ext (Ex Exts exV app_list list_size app_nil textX n4 ExtsF)
inductive Chg where
  | wrote (q : List Ex)
  | cleared (rs : List (Nat × Nat))
  | record (s : ByteArray)
def Chg.kind : Chg → Nat
  | .wrote _ => 87
  | .cleared _ => 67
  | .record _ => 82
def Chg.body : Chg → ByteArray
  | .wrote q => textX q
  | .cleared rs => rngB rs
  | .record s => s
def Chg.ap : Chg → Tb → Tb
  | .wrote q, t => ⟨t.n, t.id, t.rc, setsX t.ex q⟩
  | .cleared rs, t => ⟨t.n, t.id, t.rc, dropsX t.ex rs⟩
  | .record s, t => ⟨t.n, t.id, s, t.ex⟩
def Chg.Ok (n : Int) : Chg → Prop
  | .wrote q => Ext.goodB q = true ∧ ∀ x ∈ q, x.l + x.b ≤ n
  | .cleared rs => rs.length ≤ 16 ∧ ∀ r ∈ rs, (r.1 : Int) + r.2 ≤ n
  | .record s => s.size ≤ 2048
theorem Chg.kind_lt : ∀ c : Chg, c.kind < 256
  | .wrote _ => (by decide : 87 < 256)
  | .cleared _ => (by decide : 67 < 256)
  | .record _ => (by decide : 82 < 256)
theorem u8of {n : Nat} (h : n < 256) : (UInt8.ofNat n).toNat = n := by rw [UInt8.toNat_ofNat', Nat.mod_eq_of_lt (by omega)]
theorem Chg.body_size {c : Chg} {n : Int} (h : c.Ok n) : c.body.size ≤ 49156 := by
  cases c with
  | wrote q => show (textX q).size ≤ _; rw [Ext.textX_size]; have := Ext.good_length h.1; omega
  | cleared rs => show (rngB rs).size ≤ _; rw [rngB_size]; have := h.1; omega
  | record s => exact Nat.le_trans h (by omega)
theorem sets_where {l : List Ex} : ∀ {q : List Ex}, Ext.goodB l = true → (∀ x ∈ q, x.Fits) → ∀ n b : Int, (∀ x ∈ q, x.l + x.b ≤ n) → n ≤ b → Ext.whereX l b = none → Ext.whereX (setsX l q) b = none := by
  intro q
  induction q generalizing l with
  | nil => intro _ _ _ _ _ _ h; exact h
  | cons x q ih =>
    intro hl hq n b hn hb hw
    obtain ⟨h1, h2⟩ := Ext.set_good hl (hq x (List.mem_cons_self ..))
    refine ih h1 (fun y hy => hq y (List.mem_cons_of_mem _ hy)) n b (fun y hy => hn y (List.mem_cons_of_mem _ hy)) hb ?_
    rw [h2, if_neg (by have := hn x (List.mem_cons_self ..); omega)]
    exact hw
theorem drops_where {l : List Ex} : ∀ {rs : List (Nat × Nat)}, Ext.goodB l = true → (∀ r ∈ rs, r.1 + r.2 ≤ 4096) → ∀ b : Int, Ext.whereX l b = none → Ext.whereX (dropsX l rs) b = none := by
  intro rs
  induction rs generalizing l with
  | nil => intro _ _ _ h; exact h
  | cons r rs ih =>
    intro hl hq b hw
    obtain ⟨h1, h2⟩ := Ext.drop_good (lba := r.1) (k := r.2) hl (by omega) (by omega) (by have := hq r (List.mem_cons_self ..); omega)
    refine ih h1 (fun y hy => hq y (List.mem_cons_of_mem _ hy)) b ?_
    rw [h2]
    split
    · rfl
    · exact hw
theorem Chg.ok {c : Chg} {t : Tb} (ht : t.Ok) (hc : c.Ok t.n) : (c.ap t).Ok := by
  cases c with
  | wrote q => exact ⟨ht.n1, ht.n2, ht.id, ht.rc, sets_good ht.good (good_all hc.1), fun b hb => sets_where ht.good (good_all hc.1) t.n b hc.2 hb (ht.dom b hb)⟩
  | cleared rs =>
    have hr : ∀ r ∈ rs, r.1 + r.2 ≤ 4096 := fun r hr => by have := hc.2 r hr; have := ht.n2; omega
    exact ⟨ht.n1, ht.n2, ht.id, ht.rc, drops_good ht.good hr, fun b hb => drops_where ht.good hr b (ht.dom b hb)⟩
  | record s => exact ⟨ht.n1, ht.n2, ht.id, hc, ht.good, ht.dom⟩
def hdB (lun : Nat) (c : Chg) : ByteArray := ⟨#[UInt8.ofNat lun, UInt8.ofNat c.kind]⟩
def chB (lun : Nat) (c : Chg) : ByteArray := hdB lun c ++ c.body
def chV (lun : Nat) (c : Chg) : Value := .agg #[.int .i64 (lun : Int), .int .u8 (c.kind : Int), .string c.body]
theorem hd_bytes (lun : Nat) (c : Chg) (hl : lun < 8) (w : World) : Ext.BytesAt (w.alloc (.cells #[.int .u8 (lun : Int), .int .u8 (c.kind : Int)] 5)) w.heap.size (hdB lun c) := fun j hj => by
  have hk := c.kind_lt
  have hj2 : j < 2 := hj
  rw [(Blk.new w 5 #[.int .u8 (lun : Int), .int .u8 (c.kind : Int)]).cell]
  rcases (show j = 0 ∨ j = 1 by omega) with rfl | rfl
  · refine (show (#[Value.int .u8 (lun : Int), .int .u8 (c.kind : Int)])[0]? = some (.int .u8 (lun : Int)) from rfl).trans ?_
    rw [show byt (hdB lun c) 0 = (UInt8.ofNat lun).toNat from rfl, u8of (by omega)]
  · refine (show (#[Value.int .u8 (lun : Int), .int .u8 (c.kind : Int)])[1]? = some (.int .u8 (c.kind : Int)) from rfl).trans ?_
    rw [show byt (hdB lun c) 1 = (UInt8.ofNat c.kind).toNat from rfl, u8of hk]
set_option maxRecDepth 100000 in
set_option maxHeartbeats 1000000 in
theorem change_text (lun : Nat) (c : Chg) (w : World) (hl : lun < 8) (hb : c.body.size ≤ 50000) :
    Calls Tryz.prog 128 #[chV lun c] w fun e w' => e = .returned (.string (chB lun c)) ∧ Below w.heap.size w w' := by
  have hw : IntKind.u8.wrap (lun : Int) = (lun : Int) := by rw [IntKind.wrap_u8]; omega
  obtain ⟨h1, h2⟩ := one_alloc w #[.int .i64 (lun : Int), .int .u8 (c.kind : Int), .string c.body] 148 _ rfl
  have hcv := Ext.bytes_str (cap := 2) (hd_bytes lun c hl (w.alloc (.cells #[.int .i64 (lun : Int), .int .u8 (c.kind : Int), .string c.body] 148)))
  rw [show (hdB lun c).size = 2 from rfl, show (w.alloc (.cells #[.int .i64 (lun : Int), .int .u8 (c.kind : Int), .string c.body] 148)).heap.size = w.heap.size + 1 by simp] at hcv
  have HB := Lib.hid (h2.alloc h2.size (.cells #[.int .u8 (lun : Int), .int .u8 (c.kind : Int)] 5))
  have hz : (hdB lun c).size = 2 := rfl
  have hcat : (hdB lun c).size + c.body.size ≤ 9223372036854775807 := by omega
  unfold chV chB
  clear h1 h2
  go_enter Tryz.func128, Tryz.ntmps128
  go_wp2_with (fail)
  go_ret
  exact ⟨rfl, HB.out⟩
theorem hd_byt (lun : Nat) (c : Chg) (hl : lun < 8) : byt (chB lun c) 0 = lun ∧ byt (chB lun c) 1 = c.kind := by
  have hk := c.kind_lt
  constructor
  · show ((UInt8.ofNat lun).toNat : Nat) = lun
    exact u8of (by omega)
  · show ((UInt8.ofNat c.kind).toNat : Nat) = c.kind
    exact u8of hk
theorem ch_size (lun : Nat) (c : Chg) : (chB lun c).size = 2 + c.body.size := ByteArray.size_append
theorem ch_tail (lun : Nat) (c : Chg) : (chB lun c).extract 2 (chB lun c).size = c.body := by
  have h : (hdB lun c).size = 2 := rfl
  rw [ch_size]
  unfold chB
  rw [extR _ _ _ _ (by omega), h, Nat.sub_self, Nat.add_sub_cancel_left]
  exact ByteArray.extract_zero_size
theorem size118 : (Tryz.prog.info? 148).map (·.size) = some 3 := by kernel_rfl
set_option maxRecDepth 100000 in
set_option maxHeartbeats 1000000 in
theorem read_change (lun : Nat) (c : Chg) (w : World) (hl : lun < 8) (hb : c.body.size ≤ 50000) :
    Calls Tryz.prog 202 #[.string (chB lun c)] w fun e w' => e = .returned (chV lun c) ∧ Below w.heap.size w w' := by
  obtain ⟨b0, b1⟩ := hd_byt lun c hl
  have hz := ch_size lun c
  have htl := ch_tail lun c
  have i0 := fun v => index_byt (chB lun c) 0 0 rfl (by omega) v
  have i1 := fun v => index_byt (chB lun c) 1 1 rfl (by omega) v
  rw [b0] at i0
  rw [b1] at i1
  have hk := c.kind_lt
  have hw : IntKind.i64.wrap (lun : Int) = (lun : Int) := i64w _ (by omega)
  have g2 : (2 : Int) ≤ (chB lun c).size := by omega
  have g3 : ¬ ((chB lun c).size : Int) < 2 := by omega
  obtain ⟨h1, h2⟩ := one_alloc w #[.int .i64 0, .int .u8 0, .string ⟨#[]⟩] 148 _ rfl
  have HN := Lib.hid h1
  have HB := Lib.hid h2
  unfold chV
  generalize chB lun c = s at *
  generalize c.body = bd at *
  generalize c.kind = kd at *
  clear h1 h2 b0 b1 hz
  go_enter Tryz.func202, Tryz.ntmps202
  go_upto_region 3 with (fail)
  generalize w.alloc (.cells #[.int .i64 0, .int .u8 0, .string ⟨#[]⟩] 148) = w1 at *
  have k0 : w1.cell? ⟨w.heap.size, 0, none⟩ = some (.int .i64 0) := (HN.out.cell 0).trans rfl
  have k1 : w1.cell? ⟨w.heap.size, 1, none⟩ = some (.int .u8 0) := (HN.out.cell 1).trans rfl
  have k2 : w1.cell? ⟨w.heap.size, 2, none⟩ = some (.string ⟨#[]⟩) := (HN.out.cell 2).trans rfl
  have f0 := HN.out.free 0
  have f1 := HN.out.free 1
  have f2 := HN.out.free 2
  have HBE := Lib.hid ((((HB.out.drew).setCell (p := ⟨w.heap.size, 0, none⟩) (Nat.le_refl _) (.int .i64 (lun : Int))).setCell (p := ⟨w.heap.size, 1, none⟩) (Nat.le_refl _) (.int .u8 (kd : Int))).setCell (p := ⟨w.heap.size, 2, none⟩) (Nat.le_refl _) (.string bd))
  have HK := Lib.hid (((HN.out.drew.put 0 (.int .i64 (lun : Int))).put 1 (.int .u8 (kd : Int))).put 2 (.string bd))
  go_still_tail 8, (by kernel_rfl)
  change wpList _ _ _ _ _ w1.drew
  go_wp2_with (fail)
  refine bodyPost_ret_by (results_cell_row rfl _ _ w.heap.size 148 #[.int .i64 (lun : Int), .int .u8 (kd : Int), .string bd] (0, 0) _ rfl HK.out Tryz.underlying148 rfl size118) rfl ?_
  exact ⟨rfl, HBE.out⟩
/-- Tables whose cells stand in one block's row. -/
def TbIn (w : World) (L : Nat → Prop) (xs : List Value) (l : List Tb) : Prop := ∀ (j : Nat) (t : Tb), l[j]? = some t → ∃ E c, xs[j * 4]? = some (.int .i64 t.n) ∧ xs[j * 4 + 1]? = some (.string t.id) ∧ xs[j * 4 + 2]? = some (.string t.rc) ∧ xs[j * 4 + 3]? = some (.slice E t.ex.length c) ∧ Exts w E t.ex ∧ ∀ a, E = some a → 0 < t.ex.length → L a.block
theorem tbs_cells {w : World} {L : Nat → Prop} {b o : Nat} {l : List Tb} (h : Tbs w L (some ⟨b, o, none⟩) l) : ∀ k, k ≤ l.length → ∃ xs : List Value, xs.length = k * 4 ∧ (∀ j u, xs[j]? = some u → w.cell? ⟨b, o + j, none⟩ = some u) ∧ (∀ u ∈ xs, u.oneCell' = true) ∧ TbIn w L xs (l.take k) := by
  intro k
  induction k with
  | zero => exact fun _ => ⟨[], rfl, (fun j u hj => by simp at hj), (fun u hu => by cases hu), (fun j t hj => by simp at hj)⟩
  | succ k ih =>
    intro hk
    obtain ⟨xs, h1, h2, h3, h4⟩ := ih (by omega)
    obtain ⟨b', o', t, E, c, e0, hat, c0, c1, c2, c3, he, _, hl⟩ := h.at_ (j := k) (by omega)
    obtain ⟨rfl, rfl⟩ : b = b' ∧ o = o' := by
      have := Option.some.inj e0
      injection this with x1 x2 _
      exact ⟨x1, x2⟩
    refine ⟨xs ++ [.int .i64 t.n, .string t.id, .string t.rc, .slice E t.ex.length c], by rw [List.length_append, h1]; simp; omega, fun j u hj => ?_, fun u hu => ?_, fun j u hj => ?_⟩
    · by_cases hlt : j < xs.length
      · rw [List.getElem?_append_left hlt] at hj
        exact h2 j u hj
      · rw [List.getElem?_append_right (by omega), h1] at hj
        obtain ⟨i, rfl⟩ : ∃ i, j = k * 4 + i := ⟨j - k * 4, by omega⟩
        rw [Nat.add_sub_cancel_left] at hj
        match i, hj with
        | 0, hj => simp at hj; subst hj; exact c0
        | 1, hj => simp at hj; subst hj; exact c1
        | 2, hj => simp at hj; subst hj; exact c2
        | 3, hj => simp at hj; subst hj; exact c3
    · rcases List.mem_append.1 hu with hu | hu
      · exact h3 u hu
      · exact four_cells u hu
    · rw [List.take_add_one, hat, Option.toList_some] at hj
      by_cases hlt : j < k
      · rw [List.getElem?_append_left (by rw [List.length_take]; omega)] at hj
        obtain ⟨E', c', a0, a1, a2, a3, a4, a5⟩ := h4 j u hj
        exact ⟨E', c', by rw [List.getElem?_append_left (by omega)]; exact a0, by rw [List.getElem?_append_left (by omega)]; exact a1, by rw [List.getElem?_append_left (by omega)]; exact a2, by rw [List.getElem?_append_left (by omega)]; exact a3, a4, a5⟩
      · have hjk : j = k := by
          have := (List.getElem?_eq_some_iff.1 hj).1
          rw [List.length_append, List.length_take] at this
          simp at this
          omega
        subst hjk
        rw [List.getElem?_append_right (by rw [List.length_take]; omega), List.length_take, Nat.min_eq_left (by omega), Nat.sub_self] at hj
        obtain rfl : t = u := by simpa using hj
        refine ⟨E, c, ?_, ?_, ?_, ?_, he, hl⟩
        · rw [List.getElem?_append_right (by omega), h1, Nat.sub_self]; rfl
        · rw [List.getElem?_append_right (by omega), h1, Nat.add_sub_cancel_left]; rfl
        · rw [List.getElem?_append_right (by omega), h1, Nat.add_sub_cancel_left]; rfl
        · rw [List.getElem?_append_right (by omega), h1, Nat.add_sub_cancel_left]; rfl
theorem own_void4 (w : World) : (w.alloc (.cells #[] 140)).ownsRow w.heap.size 140 4 (.slice (some ⟨w.heap.size, 0, none⟩) 0 0) 0 [] :=
  World.ownsRow_lit w #[] 0 (Nat.le_refl _) (Nat.zero_le _) rfl
theorem TbIn.below {w w' : World} {L : Nat → Prop} {xs : List Value} {l : List Tb} (h : TbIn w L xs l) (hb : Below w.heap.size w w') : TbIn w' L xs l := fun j t hj => by
  obtain ⟨E, c, h0, h1, h2, h3, he, hl⟩ := h j t hj
  exact ⟨E, c, h0, h1, h2, h3, he.below hb, hl⟩
set_option maxRecDepth 100000 in
set_option maxHeartbeats 1000000 in
theorem clone_tbs (L : Nat → Prop) (b o c : Nat) (l : List Tb) (w : World) (h : Tbs w L (some ⟨b, o, none⟩) l) (h1 : 1 ≤ l.length) (hn : l.length ≤ 8) :
    Calls Tryz.prog 167 #[.slice (some ⟨b, o, none⟩) l.length c] w fun e w' => ∃ g c' cur, e = .returned (.slice (some ⟨g, 0, none⟩) l.length c') ∧ Blk w' g 140 cur ∧ w.heap.size ≤ g ∧ TbIn w' L cur.toList l ∧ Below w.heap.size w w' := by
  obtain ⟨xs, x1, x2, x3, x4⟩ := tbs_cells h l.length (Nat.le_refl _)
  rw [List.take_length] at x4
  have hnil : ∀ (w : World) (a : Option Addr) (n c n' c' : Nat), (binOp .eql 113 (.slice a n c) (.slice none n' c')).run Tryz.prog w = .ok (.bool a.isNone) w := fun w a n c n' c' => Lib.run_eql_slice_nil w _ _ a n c n' c' Tryz.underlying113
  have HV := Lib.hid (own_void4 w)
  have HB := Lib.hid ((Below.refl w.heap.size w).alloc (Nat.le_refl _) (.cells #[] 140))
  have HX : Hid (∀ j u, xs[j]? = some u → (w.alloc (.cells #[] 140)).cell? ((⟨b, o, none⟩ : Addr).add j) = some u) := Lib.hid fun j u hj => by
    have := x2 j u hj
    rw [Addr.add_lit]
    exact (HB.out.cell (World.block_lt_of_cell? _ _ this)).trans this
  obtain ⟨i0, hi0, hz0, hz1, hz2⟩ := info_parts infoTb
  have HI := Lib.hid x4
  have HLEN := Lib.hid x1
  have HONE := Lib.hid x3
  have HM := Lib.hid (show 0 + l.length ≤ maxLen by unfold maxLen; omega)
  have HY := Lib.hid (show (0 + l.length) * 64 ≤ 140737488355328 by omega)
  clear x1 x2 x3 x4 h
  go_enter Tryz.func167, Tryz.ntmps167
  go_wp2_with (at_builtin; refine wpList_append_own_at _ rfl (.tmp 5) (.tmp 6) _ rfl w.heap.size 140 i0 _ 4 64 Tryz.underlying113 hi0 hz0 hz1 hz2 rfl (by omega) (.slice (some ⟨w.heap.size, 0, none⟩) 0 0) 0 [] rfl HV.out _ l.length c xs rfl HLEN.out HX.out HONE.out HM.out HY.out HB.out.size ?_; intro v' w5 hown1 hg1 hn1 hat1; have HO5 := Lib.hid hown1; have HG5 := Lib.hid hg1; clear hown1 hg1 hn1 hat1)
  obtain ⟨A5, c5, rfl⟩ := Ext.own_form HO5.out
  rw [Nat.zero_add] at HO5
  obtain ⟨g, cur, rfl, hge, hblk, htk⟩ := Ext.own_some HO5.out (by omega)
  have HTI := Lib.hid (HI.out.below (HB.out.trans (grown_below HG5.out (fun b hb => by simp [Value.ownBlock] at hb; omega) HB.out.size)))
  have HBE := Lib.hid (HB.out.trans (grown_below HG5.out (fun b hb => by simp [Value.ownBlock] at hb; omega) HB.out.size))
  go_ret
  refine ⟨g, c5, cur, by first | rfl | (rw [Nat.zero_add]; rfl), hblk, hge, ?_, HBE.out⟩
  intro j t hj
  have hjl := (List.getElem?_eq_some_iff.1 hj).1
  obtain ⟨E, ce, a0, a1, a2, a3, a4, a5⟩ := HTI.out j t hj
  have key : ∀ i v, i < l.length * 4 → xs[i]? = some v → cur.toList[i]? = some v := fun i v hi hv => by
    have e := htk
    rw [List.nil_append] at e
    rw [← e, List.getElem?_take, if_pos hi] at hv
    exact hv
  exact ⟨E, ce, key _ _ (by omega) a0, key _ _ (by omega) a1, key _ _ (by omega) a2, key _ _ (by omega) a3, a4, a5⟩
end Go.Proofs.YtglfjlbhjaemgaaGreatDoor
