/- store: changes, as they stand in the journal; a copy of the tables. store: the tables with a change made; what a base and records come to. -/
import Derived.Test.YtglfjlbhjaemgaaGreatDoorPl32
import Derived.Lib.SliceRun
namespace Go.Proofs.YtglfjlbhjaemgaaGreatDoor
open Go.RowKit
open Ext (Ex Exts exV app_list list_size app_nil textX n4 ExtsF)
inductive Chg where
  | wrote (q : List Ex)
  | cleared (rs : List (Nat × Nat))
  | record (s : ByteArray)
def Chg.kind : Chg → Nat
  | .wrote _ => 87
  | .cleared _ => 67
  | .record _ => 82
def Chg.body : Chg → ByteArray
  | .wrote q => textX q
  | .cleared rs => rngB rs
  | .record s => s
def Chg.ap : Chg → Tb → Tb
  | .wrote q, t => ⟨t.n, t.id, t.rc, setsX t.ex q⟩
  | .cleared rs, t => ⟨t.n, t.id, t.rc, dropsX t.ex rs⟩
  | .record s, t => ⟨t.n, t.id, s, t.ex⟩
def Chg.Ok (n : Int) : Chg → Prop
  | .wrote q => Ext.goodB q = true ∧ ∀ x ∈ q, x.l + x.b ≤ n
  | .cleared rs => rs.length ≤ 16 ∧ ∀ r ∈ rs, (r.1 : Int) + r.2 ≤ n
  | .record s => s.size ≤ 2048
theorem Chg.kind_lt : ∀ c : Chg, c.kind < 256
  | .wrote _ => (by decide : 87 < 256)
  | .cleared _ => (by decide : 67 < 256)
  | .record _ => (by decide : 82 < 256)
theorem u8of {n : Nat} (h : n < 256) : (UInt8.ofNat n).toNat = n := by rw [UInt8.toNat_ofNat', Nat.mod_eq_of_lt (by omega)]
theorem Chg.body_size {c : Chg} {n : Int} (h : c.Ok n) : c.body.size ≤ 49156 := by
  cases c with
  | wrote q => show (textX q).size ≤ _; rw [Ext.textX_size]; have := Ext.good_length h.1; omega
  | cleared rs => show (rngB rs).size ≤ _; rw [rngB_size]; have := h.1; omega
  | record s => exact Nat.le_trans h (by omega)
theorem sets_where {l : List Ex} : ∀ {q : List Ex}, Ext.goodB l = true → (∀ x ∈ q, x.Fits) → ∀ n b : Int, (∀ x ∈ q, x.l + x.b ≤ n) → n ≤ b → Ext.whereX l b = none → Ext.whereX (setsX l q) b = none := by
  intro q
  induction q generalizing l with
  | nil => intro _ _ _ _ _ _ h; exact h
  | cons x q ih =>
    intro hl hq n b hn hb hw
    obtain ⟨h1, h2⟩ := Ext.set_good hl (hq x (List.mem_cons_self ..))
    refine ih h1 (fun y hy => hq y (List.mem_cons_of_mem _ hy)) n b (fun y hy => hn y (List.mem_cons_of_mem _ hy)) hb ?_
    rw [h2, if_neg (by have := hn x (List.mem_cons_self ..); omega)]
    exact hw
theorem drops_where {l : List Ex} : ∀ {rs : List (Nat × Nat)}, Ext.goodB l = true → (∀ r ∈ rs, r.1 + r.2 ≤ 4096) → ∀ b : Int, Ext.whereX l b = none → Ext.whereX (dropsX l rs) b = none := by
  intro rs
  induction rs generalizing l with
  | nil => intro _ _ _ h; exact h
  | cons r rs ih =>
    intro hl hq b hw
    obtain ⟨h1, h2⟩ := Ext.drop_good (lba := r.1) (k := r.2) hl (by omega) (by omega) (by have := hq r (List.mem_cons_self ..); omega)
    refine ih h1 (fun y hy => hq y (List.mem_cons_of_mem _ hy)) b ?_
    rw [h2]
    split
    · rfl
    · exact hw
theorem Chg.ok {c : Chg} {t : Tb} (ht : t.Ok) (hc : c.Ok t.n) : (c.ap t).Ok := by
  cases c with
  | wrote q => exact ⟨ht.n1, ht.n2, ht.id, ht.rc, sets_good ht.good (good_all hc.1), fun b hb => sets_where ht.good (good_all hc.1) t.n b hc.2 hb (ht.dom b hb)⟩
  | cleared rs =>
    have hr : ∀ r ∈ rs, r.1 + r.2 ≤ 4096 := fun r hr => by have := hc.2 r hr; have := ht.n2; omega
    exact ⟨ht.n1, ht.n2, ht.id, ht.rc, drops_good ht.good hr, fun b hb => drops_where ht.good hr b (ht.dom b hb)⟩
  | record s => exact ⟨ht.n1, ht.n2, ht.id, hc, ht.good, ht.dom⟩
def hdB (lun : Nat) (c : Chg) : ByteArray := ⟨#[UInt8.ofNat lun, UInt8.ofNat c.kind]⟩
def chB (lun : Nat) (c : Chg) : ByteArray := hdB lun c ++ c.body
def chV (lun : Nat) (c : Chg) : Value := .agg #[.int .i64 (lun : Int), .int .u8 (c.kind : Int), .string c.body]
theorem hd_bytes (lun : Nat) (c : Chg) (hl : lun < 8) (w : World) : Ext.BytesAt (w.alloc (.cells #[.int .u8 (lun : Int), .int .u8 (c.kind : Int)] 5)) w.heap.size (hdB lun c) := fun j hj => by
  have hk := c.kind_lt
  have hj2 : j < 2 := hj
  rw [(Blk.new w 5 #[.int .u8 (lun : Int), .int .u8 (c.kind : Int)]).cell]
  rcases (show j = 0 ∨ j = 1 by omega) with rfl | rfl
  · refine (show (#[Value.int .u8 (lun : Int), .int .u8 (c.kind : Int)])[0]? = some (.int .u8 (lun : Int)) from rfl).trans ?_
    rw [show byt (hdB lun c) 0 = (UInt8.ofNat lun).toNat from rfl, u8of (by omega)]
  · refine (show (#[Value.int .u8 (lun : Int), .int .u8 (c.kind : Int)])[1]? = some (.int .u8 (c.kind : Int)) from rfl).trans ?_
    rw [show byt (hdB lun c) 1 = (UInt8.ofNat c.kind).toNat from rfl, u8of hk]
set_option maxRecDepth 100000 in
set_option maxHeartbeats 1000000 in
theorem change_text (lun : Nat) (c : Chg) (w : World) (hl : lun < 8) (hb : c.body.size ≤ 50000) :
    Calls Tryz.prog 128 #[chV lun c] w fun e w' => e = .returned (.string (chB lun c)) ∧ Below w.heap.size w w' := by
  have hw : IntKind.u8.wrap (lun : Int) = (lun : Int) := by rw [IntKind.wrap_u8]; omega
  obtain ⟨h1, h2⟩ := one_alloc w #[.int .i64 (lun : Int), .int .u8 (c.kind : Int), .string c.body] 148 _ rfl
  have hcv := Ext.bytes_str (cap := 2) (hd_bytes lun c hl (w.alloc (.cells #[.int .i64 (lun : Int), .int .u8 (c.kind : Int), .string c.body] 148)))
  rw [show (hdB lun c).size = 2 from rfl, show (w.alloc (.cells #[.int .i64 (lun : Int), .int .u8 (c.kind : Int), .string c.body] 148)).heap.size = w.heap.size + 1 by simp] at hcv
  have HB := Lib.hid (h2.alloc h2.size (.cells #[.int .u8 (lun : Int), .int .u8 (c.kind : Int)] 5))
  have hz : (hdB lun c).size = 2 := rfl
  have hcat : (hdB lun c).size + c.body.size ≤ 9223372036854775807 := by omega
  unfold chV chB
  clear h1 h2
  go_enter Tryz.func128, Tryz.ntmps128
  go_wp2_with (fail)
  go_ret
  exact ⟨rfl, HB.out⟩
theorem hd_byt (lun : Nat) (c : Chg) (hl : lun < 8) : byt (chB lun c) 0 = lun ∧ byt (chB lun c) 1 = c.kind := by
  have hk := c.kind_lt
  constructor
  · show ((UInt8.ofNat lun).toNat : Nat) = lun
    exact u8of (by omega)
  · show ((UInt8.ofNat c.kind).toNat : Nat) = c.kind
    exact u8of hk
theorem ch_size (lun : Nat) (c : Chg) : (chB lun c).size = 2 + c.body.size := ByteArray.size_append
theorem ch_tail (lun : Nat) (c : Chg) : (chB lun c).extract 2 (chB lun c).size = c.body := by
  have h : (hdB lun c).size = 2 := rfl
  rw [ch_size]
  unfold chB
  rw [extR _ _ _ _ (by omega), h, Nat.sub_self, Nat.add_sub_cancel_left]
  exact ByteArray.extract_zero_size
theorem size118 : (Tryz.prog.info? 148).map (·.size) = some 3 := by kernel_rfl
set_option maxRecDepth 100000 in
set_option maxHeartbeats 1000000 in
theorem read_change (lun : Nat) (c : Chg) (w : World) (hl : lun < 8) (hb : c.body.size ≤ 50000) :
    Calls Tryz.prog 202 #[.string (chB lun c)] w fun e w' => e = .returned (chV lun c) ∧ Below w.heap.size w w' := by
  obtain ⟨b0, b1⟩ := hd_byt lun c hl
  have hz := ch_size lun c
  have htl := ch_tail lun c
  have i0 := fun v => index_byt (chB lun c) 0 0 rfl (by omega) v
  have i1 := fun v => index_byt (chB lun c) 1 1 rfl (by omega) v
  rw [b0] at i0
  rw [b1] at i1
  have hk := c.kind_lt
  have hw : IntKind.i64.wrap (lun : Int) = (lun : Int) := i64w _ (by omega)
  have g2 : (2 : Int) ≤ (chB lun c).size := by omega
  have g3 : ¬ ((chB lun c).size : Int) < 2 := by omega
  obtain ⟨h1, h2⟩ := one_alloc w #[.int .i64 0, .int .u8 0, .string ⟨#[]⟩] 148 _ rfl
  have HN := Lib.hid h1
  have HB := Lib.hid h2
  unfold chV
  generalize chB lun c = s at *
  generalize c.body = bd at *
  generalize c.kind = kd at *
  clear h1 h2 b0 b1 hz
  go_enter Tryz.func202, Tryz.ntmps202
  go_upto_region 3 with (fail)
  generalize w.alloc (.cells #[.int .i64 0, .int .u8 0, .string ⟨#[]⟩] 148) = w1 at *
  have k0 : w1.cell? ⟨w.heap.size, 0, none⟩ = some (.int .i64 0) := (HN.out.cell 0).trans rfl
  have k1 : w1.cell? ⟨w.heap.size, 1, none⟩ = some (.int .u8 0) := (HN.out.cell 1).trans rfl
  have k2 : w1.cell? ⟨w.heap.size, 2, none⟩ = some (.string ⟨#[]⟩) := (HN.out.cell 2).trans rfl
  have f0 := HN.out.free 0
  have f1 := HN.out.free 1
  have f2 := HN.out.free 2
  have HBE := Lib.hid ((((HB.out.drew).setCell (p := ⟨w.heap.size, 0, none⟩) (Nat.le_refl _) (.int .i64 (lun : Int))).setCell (p := ⟨w.heap.size, 1, none⟩) (Nat.le_refl _) (.int .u8 (kd : Int))).setCell (p := ⟨w.heap.size, 2, none⟩) (Nat.le_refl _) (.string bd))
  have HK := Lib.hid (((HN.out.drew.put 0 (.int .i64 (lun : Int))).put 1 (.int .u8 (kd : Int))).put 2 (.string bd))
  go_still_tail 8, (by kernel_rfl)
  change wpList _ _ _ _ _ w1.drew
  go_wp2_with (fail)
  refine bodyPost_ret_by (results_cell_row rfl _ _ w.heap.size 148 #[.int .i64 (lun : Int), .int .u8 (kd : Int), .string bd] (0, 0) _ rfl HK.out Tryz.underlying148 rfl size118) rfl ?_
  exact ⟨rfl, HBE.out⟩
/-- Tables whose cells stand in one block's row. -/
def TbIn (w : World) (L : Nat → Prop) (xs : List Value) (l : List Tb) : Prop := ∀ (j : Nat) (t : Tb), l[j]? = some t → ∃ E c, xs[j * 4]? = some (.int .i64 t.n) ∧ xs[j * 4 + 1]? = some (.string t.id) ∧ xs[j * 4 + 2]? = some (.string t.rc) ∧ xs[j * 4 + 3]? = some (.slice E t.ex.length c) ∧ Exts w E t.ex ∧ ∀ a, E = some a → 0 < t.ex.length → L a.block
theorem tbs_cells {w : World} {L : Nat → Prop} {b o : Nat} {l : List Tb} (h : Tbs w L (some ⟨b, o, none⟩) l) : ∀ k, k ≤ l.length → ∃ xs : List Value, xs.length = k * 4 ∧ (∀ j u, xs[j]? = some u → w.cell? ⟨b, o + j, none⟩ = some u) ∧ (∀ u ∈ xs, u.oneCell' = true) ∧ TbIn w L xs (l.take k) := by
  intro k
  induction k with
  | zero => exact fun _ => ⟨[], rfl, (fun j u hj => by simp at hj), (fun u hu => by cases hu), (fun j t hj => by simp at hj)⟩
  | succ k ih =>
    intro hk
    obtain ⟨xs, h1, h2, h3, h4⟩ := ih (by omega)
    obtain ⟨b', o', t, E, c, e0, hat, c0, c1, c2, c3, he, _, hl⟩ := h.at_ (j := k) (by omega)
    obtain ⟨rfl, rfl⟩ : b = b' ∧ o = o' := by
      have := Option.some.inj e0
      injection this with x1 x2 _
      exact ⟨x1, x2⟩
    refine ⟨xs ++ [.int .i64 t.n, .string t.id, .string t.rc, .slice E t.ex.length c], by rw [List.length_append, h1]; simp; omega, fun j u hj => ?_, fun u hu => ?_, fun j u hj => ?_⟩
    · by_cases hlt : j < xs.length
      · rw [List.getElem?_append_left hlt] at hj
        exact h2 j u hj
      · rw [List.getElem?_append_right (by omega), h1] at hj
        obtain ⟨i, rfl⟩ : ∃ i, j = k * 4 + i := ⟨j - k * 4, by omega⟩
        rw [Nat.add_sub_cancel_left] at hj
        match i, hj with
        | 0, hj => simp at hj; subst hj; exact c0
        | 1, hj => simp at hj; subst hj; exact c1
        | 2, hj => simp at hj; subst hj; exact c2
        | 3, hj => simp at hj; subst hj; exact c3
    · rcases List.mem_append.1 hu with hu | hu
      · exact h3 u hu
      · exact four_cells u hu
    · rw [List.take_add_one, hat, Option.toList_some] at hj
      by_cases hlt : j < k
      · rw [List.getElem?_append_left (by rw [List.length_take]; omega)] at hj
        obtain ⟨E', c', a0, a1, a2, a3, a4, a5⟩ := h4 j u hj
        exact ⟨E', c', by rw [List.getElem?_append_left (by omega)]; exact a0, by rw [List.getElem?_append_left (by omega)]; exact a1, by rw [List.getElem?_append_left (by omega)]; exact a2, by rw [List.getElem?_append_left (by omega)]; exact a3, a4, a5⟩
      · have hjk : j = k := by
          have := (List.getElem?_eq_some_iff.1 hj).1
          rw [List.length_append, List.length_take] at this
          simp at this
          omega
        subst hjk
        rw [List.getElem?_append_right (by rw [List.length_take]; omega), List.length_take, Nat.min_eq_left (by omega), Nat.sub_self] at hj
        obtain rfl : t = u := by simpa using hj
        refine ⟨E, c, ?_, ?_, ?_, ?_, he, hl⟩
        · rw [List.getElem?_append_right (by omega), h1, Nat.sub_self]; rfl
        · rw [List.getElem?_append_right (by omega), h1, Nat.add_sub_cancel_left]; rfl
        · rw [List.getElem?_append_right (by omega), h1, Nat.add_sub_cancel_left]; rfl
        · rw [List.getElem?_append_right (by omega), h1, Nat.add_sub_cancel_left]; rfl
theorem own_void4 (w : World) : (w.alloc (.cells #[] 140)).ownsRow w.heap.size 140 4 (.slice (some ⟨w.heap.size, 0, none⟩) 0 0) 0 [] :=
  World.ownsRow_lit w #[] 0 (Nat.le_refl _) (Nat.zero_le _) rfl
theorem TbIn.below {w w' : World} {L : Nat → Prop} {xs : List Value} {l : List Tb} (h : TbIn w L xs l) (hb : Below w.heap.size w w') : TbIn w' L xs l := fun j t hj => by
  obtain ⟨E, c, h0, h1, h2, h3, he, hl⟩ := h j t hj
  exact ⟨E, c, h0, h1, h2, h3, he.below hb, hl⟩
set_option maxRecDepth 100000 in
set_option maxHeartbeats 1000000 in
theorem clone_tbs (L : Nat → Prop) (b o c : Nat) (l : List Tb) (w : World) (h : Tbs w L (some ⟨b, o, none⟩) l) (h1 : 1 ≤ l.length) (hn : l.length ≤ 8) :
    Calls Tryz.prog 167 #[.slice (some ⟨b, o, none⟩) l.length c] w fun e w' => ∃ g c' cur, e = .returned (.slice (some ⟨g, 0, none⟩) l.length c') ∧ Blk w' g 140 cur ∧ w.heap.size ≤ g ∧ TbIn w' L cur.toList l ∧ Below w.heap.size w w' := by
  obtain ⟨xs, x1, x2, x3, x4⟩ := tbs_cells h l.length (Nat.le_refl _)
  rw [List.take_length] at x4
  have hnil : ∀ (w : World) (a : Option Addr) (n c n' c' : Nat), (binOp .eql 113 (.slice a n c) (.slice none n' c')).run Tryz.prog w = .ok (.bool a.isNone) w := fun w a n c n' c' => Lib.run_eql_slice_nil w _ _ a n c n' c' Tryz.underlying113
  have HV := Lib.hid (own_void4 w)
  have HB := Lib.hid ((Below.refl w.heap.size w).alloc (Nat.le_refl _) (.cells #[] 140))
  have HX : Hid (∀ j u, xs[j]? = some u → (w.alloc (.cells #[] 140)).cell? ((⟨b, o, none⟩ : Addr).add j) = some u) := Lib.hid fun j u hj => by
    have := x2 j u hj
    rw [Addr.add_lit]
    exact (HB.out.cell (World.block_lt_of_cell? _ _ this)).trans this
  obtain ⟨i0, hi0, hz0, hz1, hz2⟩ := info_parts infoTb
  have HI := Lib.hid x4
  have HLEN := Lib.hid x1
  have HONE := Lib.hid x3
  have HM := Lib.hid (show 0 + l.length ≤ maxLen by unfold maxLen; omega)
  have HY := Lib.hid (show (0 + l.length) * 64 ≤ 140737488355328 by omega)
  clear x1 x2 x3 x4 h
  go_enter Tryz.func167, Tryz.ntmps167
  go_wp2_with (at_builtin; refine wpList_append_own_at _ rfl (.tmp 5) (.tmp 6) _ rfl w.heap.size 140 i0 _ 4 64 Tryz.underlying113 hi0 hz0 hz1 hz2 rfl (by omega) (.slice (some ⟨w.heap.size, 0, none⟩) 0 0) 0 [] rfl HV.out _ l.length c xs rfl HLEN.out HX.out HONE.out HM.out HY.out HB.out.size ?_; intro v' w5 hown1 hg1 hn1 hat1; have HO5 := Lib.hid hown1; have HG5 := Lib.hid hg1; clear hown1 hg1 hn1 hat1)
  obtain ⟨A5, c5, rfl⟩ := Ext.own_form HO5.out
  rw [Nat.zero_add] at HO5
  obtain ⟨g, cur, rfl, hge, hblk, htk⟩ := Ext.own_some HO5.out (by omega)
  have HTI := Lib.hid (HI.out.below (HB.out.trans (grown_below HG5.out (fun b hb => by simp [Value.ownBlock] at hb; omega) HB.out.size)))
  have HBE := Lib.hid (HB.out.trans (grown_below HG5.out (fun b hb => by simp [Value.ownBlock] at hb; omega) HB.out.size))
  go_ret
  refine ⟨g, c5, cur, by first | rfl | (rw [Nat.zero_add]; rfl), hblk, hge, ?_, HBE.out⟩
  intro j t hj
  have hjl := (List.getElem?_eq_some_iff.1 hj).1
  obtain ⟨E, ce, a0, a1, a2, a3, a4, a5⟩ := HTI.out j t hj
  have key : ∀ i v, i < l.length * 4 → xs[i]? = some v → cur.toList[i]? = some v := fun i v hi hv => by
    have e := htk
    rw [List.nil_append] at e
    rw [← e, List.getElem?_take, if_pos hi] at hv
    exact hv
  exact ⟨E, ce, key _ _ (by omega) a0, key _ _ (by omega) a1, key _ _ (by omega) a2, key _ _ (by omega) a3, a4, a5⟩
open Go.RowKit
open Ext (Ex Exts exV app_list list_size app_nil textX n4 ExtsF)
theorem on_done {w2 w3 : World} {L M : Nat → Prop} {g lun : Nat} {cur cur' : Array Value} {l : List Tb} {u : Tb} (hin : TbIn w2 L cur.toList l) (hb : Blk w3 g 140 cur') (ho : Only (fun k => k = g) w2 w3) (hL : ∀ k, L k → k < w2.heap.size ∧ k ≠ g) (hM : ∀ k, L k → M k) (hg : M g)
    (hfar : ∀ i, i < lun * 4 ∨ lun * 4 + 4 ≤ i → cur'[i]? = cur[i]?)
    (hu : ∃ E c, cur'[lun * 4]? = some (.int .i64 u.n) ∧ cur'[lun * 4 + 1]? = some (.string u.id) ∧ cur'[lun * 4 + 2]? = some (.string u.rc) ∧ cur'[lun * 4 + 3]? = some (.slice E u.ex.length c) ∧ Exts w3 E u.ex ∧ ∀ a, E = some a → 0 < u.ex.length → M a.block) :
    Tbs w3 M (some ⟨g, 0, none⟩) (l.set lun u) := fun _ => ⟨g, 0, rfl, hg, fun j t hj => by
  by_cases hjl : lun = j
  · subst hjl
    have hlt : lun < l.length := by
      have := (List.getElem?_eq_some_iff.1 hj).1
      rwa [List.length_set] at this
    rw [List.getElem?_set_self hlt] at hj
    obtain rfl := Option.some.inj hj
    obtain ⟨E, c, a0, a1, a2, a3, a4, a5⟩ := hu
    rw [Nat.zero_add]
    exact ⟨E, c, (hb.cell _).trans a0, (hb.cell _).trans a1, (hb.cell _).trans a2, (hb.cell _).trans a3, a4, a5⟩
  · rw [List.getElem?_set_ne hjl] at hj
    obtain ⟨E, c, a0, a1, a2, a3, a4, a5⟩ := hin j t hj
    rw [Array.getElem?_toList] at a0 a1 a2 a3
    rw [Nat.zero_add]
    exact ⟨E, c, (hb.cell _).trans ((hfar _ (by omega)).trans a0), (hb.cell _).trans ((hfar _ (by omega)).trans a1), (hb.cell _).trans ((hfar _ (by omega)).trans a2), (hb.cell _).trans ((hfar _ (by omega)).trans a3), a4.kept fun hn a ha => ho.block _ (hL _ (a5 a ha hn)).1 (hL _ (a5 a ha hn)).2, fun a ha hn => hM _ (a5 a ha hn)⟩⟩
set_option maxRecDepth 100000 in
set_option maxHeartbeats 4000000 in
theorem on_wrote (L : Nat → Prop) (b o cc lun : Nat) (l : List Tb) (t : Tb) (q : List Ex) (w : World) (h : Tbs w L (some ⟨b, o, none⟩) l) (hLlt : ∀ k, L k → k < w.heap.size) (ho : ∀ t ∈ l, t.Ok) (hn : l.length ≤ 8) (ht : l[lun]? = some t) (hc : (Chg.wrote q).Ok t.n) :
    Calls Tryz.prog 126 #[chV lun (.wrote q), .slice (some ⟨b, o, none⟩) l.length cc] w fun e w' => ∃ g c', e = .returned (.tuple #[.slice (some ⟨g, 0, none⟩) l.length c', .bool true]) ∧ Tbs w' (fun k => L k ∨ w.heap.size ≤ k) (some ⟨g, 0, none⟩) (l.set lun ((Chg.wrote q).ap t)) ∧ Below w.heap.size w w' ∧ w.heap.size ≤ g := by
  have hll : lun < l.length := (List.getElem?_eq_some_iff.1 ht).1
  have HT := Lib.hid (ho t (List.mem_of_getElem? ht))
  have HU := Lib.hid (Chg.ok HT.out hc)
  have HQ := Lib.hid hc.1
  have HTG := Lib.hid ht
  have HLL := Lib.hid hLlt
  have g1 : ¬ (lun : Int) ≥ (l.length : Int) := by omega
  have g2 : (lun : Int) < (l.length : Int) := by omega
  have g3 : (0 : Int) ≤ (lun : Int) := by omega
  obtain ⟨hx0, hxb⟩ := one_alloc w #[.int .i64 (lun : Int), .int .u8 87, .string (textX q)] 148 _ rfl
  have HX := Lib.hid hx0; have HXB := Lib.hid hxb
  have HCL := Lib.hid (clone_tbs L b o cc l _ (h.below hxb) (by omega) hn)
  show Calls Tryz.prog 126 #[.agg #[.int .i64 (lun : Int), .int .u8 87, .string (textX q)], .slice (some ⟨b, o, none⟩) l.length cc] w _
  clear h hx0 hxb ho ht hc hLlt
  go_enter Tryz.func126, Tryz.ntmps126
  go_wp2_with (fail)
  generalize hw1 : w.alloc (.cells #[.int .i64 (lun : Int), .int .u8 87, .string (textX q)] 148) = w1 at *
  refine HCL.out.mono ?_; rintro e w2 ⟨g, c', cur, rfl, hbk, hgs, hin, hb2⟩
  have HBK := Lib.hid hbk; have HGS := Lib.hid hgs; have HIN := Lib.hid hin
  have HB2 := Lib.hid (HXB.out.trans (hb2.mono HXB.out.size))
  have HX2 := Lib.hid (HX.out.below hb2 HX.out.lt)
  have k0 : w2.cell? ⟨w.heap.size, 0, none⟩ = some (.int .i64 (lun : Int)) := (HX2.out.cell 0).trans rfl
  have k1 : w2.cell? ⟨w.heap.size, 1, none⟩ = some (.int .u8 87) := (HX2.out.cell 1).trans rfl
  have k2 : w2.cell? ⟨w.heap.size, 2, none⟩ = some (.string (textX q)) := (HX2.out.cell 2).trans rfl
  obtain ⟨E, ce, a0, a1, a2, a3, hex, hexl⟩ := HIN.out lun t HTG.out
  rw [Array.getElem?_toList] at a0 a1 a2 a3
  have hsz := (Array.getElem?_eq_some_iff.1 a3).1
  have hgw : w.heap.size < g := Nat.lt_of_lt_of_le HX.out.lt HGS.out
  have HPE := Lib.hid (put_ex (fun k => L k ∨ w.heap.size ≤ k) g (lun * 4) cur E ce t.ex q w2 HBK.out hsz a3 hex (fun k hk => .inr (Nat.le_trans HB2.out.size hk)) (fun a ha hn => ⟨fun h => by have := HLL.out _ (hexl a ha hn); omega, .inl (hexl a ha hn)⟩) HT.out.good HQ.out)
  have HA := Lib.hid (And.intro a0 (And.intro a1 (And.intro a2 a3)))
  clear hbk hgs hin hb2 a0 a1 a2 a3 hex hexl HCL hw1
  go_wp2_with (fail)
  refine HPE.out.mono ?_; rintro e w3 ⟨rfl, E', ce', hb3, he3, hne3, ho3⟩
  have HB3 := Lib.hid hb3; have HE3 := Lib.hid he3; have HNE := Lib.hid hne3; have HO3 := Lib.hid ho3
  obtain ⟨a0, a1, a2, a3⟩ := HA.out
  have d0 : w3.cell? ⟨g, lun * 4, none⟩ = some (.int .i64 t.n) := (HB3.out.cell _).trans ((set_far (by omega)).trans a0)
  have d1 : w3.cell? ⟨g, lun * 4 + 1, none⟩ = some (.string t.id) := (HB3.out.cell _).trans ((set_far (by omega)).trans a1)
  have d2 : w3.cell? ⟨g, lun * 4 + 2, none⟩ = some (.string t.rc) := (HB3.out.cell _).trans ((set_far (by omega)).trans a2)
  have d3 : w3.cell? ⟨g, lun * 4 + 3, none⟩ = some (.slice E' (setsX t.ex q).length ce') := (HB3.out.cell _).trans (Array.getElem?_setIfInBounds_self_of_lt hsz)
  have HSD := Lib.hid (tb_sound ((Chg.wrote q).ap t) E' ce' w3 HU.out HE3.out)
  change Hid (Calls Tryz.prog 114 #[.agg #[.int .i64 t.n, .string t.id, .string t.rc, .slice E' (setsX t.ex q).length ce']] w3 _) at HSD
  clear hb3 he3 hne3 ho3 HPE a0 a1 a2 a3
  go_wp2_with (fail)
  refine HSD.out.mono ?_; rintro e w4 ⟨rfl, hb4⟩
  have HTS := Lib.hid (on_done (lun := lun) (M := fun k => L k ∨ w.heap.size ≤ k) (u := (Chg.wrote q).ap t) HIN.out HB3.out HO3.out (fun k hk => ⟨Nat.lt_of_lt_of_le (HLL.out k hk) HB2.out.size, fun h => by have := HLL.out k hk; omega⟩) (fun k hk => .inl hk) (.inr (by omega))
    (fun i hi => set_far (i := lun * 4 + 3) (by omega))
    (by
      obtain ⟨a0, a1, a2, a3⟩ := HA.out
      exact ⟨E', ce', (set_far (by omega)).trans a0, (set_far (by omega)).trans a1, (set_far (by omega)).trans a2, Array.getElem?_setIfInBounds_self_of_lt hsz, HE3.out, fun a ha hn => (HNE.out a ha hn).2⟩))
  have HT4 := Lib.hid (HTS.out.below hb4)
  have HB3' := Lib.hid (HB2.out.trans (HO3.out.toBelow HB2.out.size (fun k hk => by have : k = g := hk; omega)))
  have HB4 := Lib.hid (HB3'.out.trans (hb4.mono HB3'.out.size))
  clear hb4 d0 d1 d2 d3
  go_wp2_with (fail)
  go_ret2
  first | exact ⟨g, c', rfl, HT4.out, HB4.out, by omega⟩ | exact ⟨g, ⟨c', rfl⟩, HT4.out, HB4.out, by omega⟩
set_option maxRecDepth 100000 in
set_option maxHeartbeats 4000000 in
theorem on_cleared (L : Nat → Prop) (b o cc lun : Nat) (l : List Tb) (t : Tb) (rs : List (Nat × Nat)) (w : World) (h : Tbs w L (some ⟨b, o, none⟩) l) (hLlt : ∀ k, L k → k < w.heap.size) (ho : ∀ t ∈ l, t.Ok) (hn : l.length ≤ 8) (ht : l[lun]? = some t) (hc : (Chg.cleared rs).Ok t.n) :
    Calls Tryz.prog 126 #[chV lun (.cleared rs), .slice (some ⟨b, o, none⟩) l.length cc] w fun e w' => ∃ g c', e = .returned (.tuple #[.slice (some ⟨g, 0, none⟩) l.length c', .bool true]) ∧ Tbs w' (fun k => L k ∨ w.heap.size ≤ k) (some ⟨g, 0, none⟩) (l.set lun ((Chg.cleared rs).ap t)) ∧ Below w.heap.size w w' ∧ w.heap.size ≤ g := by
  have hll : lun < l.length := (List.getElem?_eq_some_iff.1 ht).1
  have HT := Lib.hid (ho t (List.mem_of_getElem? ht))
  have HU := Lib.hid (Chg.ok HT.out hc)
  have HQ := Lib.hid (show ∀ r ∈ rs, r.1 + r.2 ≤ 4096 from fun r hr => by have := hc.2 r hr; have := HT.out.n2; omega)
  have HQ2 := Lib.hid (show rs.length ≤ 100 from Nat.le_trans hc.1 (by omega))
  have HTG := Lib.hid ht
  have HLL := Lib.hid hLlt
  have g1 : ¬ (lun : Int) ≥ (l.length : Int) := by omega
  have g2 : (lun : Int) < (l.length : Int) := by omega
  have g3 : (0 : Int) ≤ (lun : Int) := by omega
  obtain ⟨hx0, hxb⟩ := one_alloc w #[.int .i64 (lun : Int), .int .u8 67, .string (rngB rs)] 148 _ rfl
  have HX := Lib.hid hx0; have HXB := Lib.hid hxb
  have HCL := Lib.hid (clone_tbs L b o cc l _ (h.below hxb) (by omega) hn)
  show Calls Tryz.prog 126 #[.agg #[.int .i64 (lun : Int), .int .u8 67, .string (rngB rs)], .slice (some ⟨b, o, none⟩) l.length cc] w _
  clear h hx0 hxb ho ht hc hLlt
  go_enter Tryz.func126, Tryz.ntmps126
  go_wp2_with (fail)
  generalize hw1 : w.alloc (.cells #[.int .i64 (lun : Int), .int .u8 67, .string (rngB rs)] 148) = w1 at *
  refine HCL.out.mono ?_; rintro e w2 ⟨g, c', cur, rfl, hbk, hgs, hin, hb2⟩
  have HBK := Lib.hid hbk; have HGS := Lib.hid hgs; have HIN := Lib.hid hin
  have HB2 := Lib.hid (HXB.out.trans (hb2.mono HXB.out.size))
  have HX2 := Lib.hid (HX.out.below hb2 HX.out.lt)
  have k0 : w2.cell? ⟨w.heap.size, 0, none⟩ = some (.int .i64 (lun : Int)) := (HX2.out.cell 0).trans rfl
  have k1 : w2.cell? ⟨w.heap.size, 1, none⟩ = some (.int .u8 67) := (HX2.out.cell 1).trans rfl
  have k2 : w2.cell? ⟨w.heap.size, 2, none⟩ = some (.string (rngB rs)) := (HX2.out.cell 2).trans rfl
  obtain ⟨E, ce, a0, a1, a2, a3, hex, hexl⟩ := HIN.out lun t HTG.out
  rw [Array.getElem?_toList] at a0 a1 a2 a3
  have hsz := (Array.getElem?_eq_some_iff.1 a3).1
  have hgw : w.heap.size < g := Nat.lt_of_lt_of_le HX.out.lt HGS.out
  have HPE := Lib.hid (drop_ex (fun k => L k ∨ w.heap.size ≤ k) g (lun * 4) cur E ce t.ex rs w2 HBK.out hsz a3 hex (fun k hk => .inr (Nat.le_trans HB2.out.size hk)) (fun a ha hn => ⟨fun h => by have := HLL.out _ (hexl a ha hn); omega, .inl (hexl a ha hn)⟩) HT.out.good HQ.out HQ2.out)
  have HA := Lib.hid (And.intro a0 (And.intro a1 (And.intro a2 a3)))
  clear hbk hgs hin hb2 a0 a1 a2 a3 hex hexl HCL hw1
  go_wp2_with (fail)
  refine HPE.out.mono ?_; rintro e w3 ⟨rfl, E', ce', hb3, he3, hne3, ho3⟩
  have HB3 := Lib.hid hb3; have HE3 := Lib.hid he3; have HNE := Lib.hid hne3; have HO3 := Lib.hid ho3
  obtain ⟨a0, a1, a2, a3⟩ := HA.out
  have d0 : w3.cell? ⟨g, lun * 4, none⟩ = some (.int .i64 t.n) := (HB3.out.cell _).trans ((set_far (by omega)).trans a0)
  have d1 : w3.cell? ⟨g, lun * 4 + 1, none⟩ = some (.string t.id) := (HB3.out.cell _).trans ((set_far (by omega)).trans a1)
  have d2 : w3.cell? ⟨g, lun * 4 + 2, none⟩ = some (.string t.rc) := (HB3.out.cell _).trans ((set_far (by omega)).trans a2)
  have d3 : w3.cell? ⟨g, lun * 4 + 3, none⟩ = some (.slice E' (dropsX t.ex rs).length ce') := (HB3.out.cell _).trans (Array.getElem?_setIfInBounds_self_of_lt hsz)
  have HSD := Lib.hid (tb_sound ((Chg.cleared rs).ap t) E' ce' w3 HU.out HE3.out)
  change Hid (Calls Tryz.prog 114 #[.agg #[.int .i64 t.n, .string t.id, .string t.rc, .slice E' (dropsX t.ex rs).length ce']] w3 _) at HSD
  clear hb3 he3 hne3 ho3 HPE a0 a1 a2 a3
  go_wp2_with (fail)
  refine HSD.out.mono ?_; rintro e w4 ⟨rfl, hb4⟩
  have HTS := Lib.hid (on_done (lun := lun) (M := fun k => L k ∨ w.heap.size ≤ k) (u := (Chg.cleared rs).ap t) HIN.out HB3.out HO3.out (fun k hk => ⟨Nat.lt_of_lt_of_le (HLL.out k hk) HB2.out.size, fun h => by have := HLL.out k hk; omega⟩) (fun k hk => .inl hk) (.inr (by omega))
    (fun i hi => set_far (i := lun * 4 + 3) (by omega))
    (by
      obtain ⟨a0, a1, a2, a3⟩ := HA.out
      exact ⟨E', ce', (set_far (by omega)).trans a0, (set_far (by omega)).trans a1, (set_far (by omega)).trans a2, Array.getElem?_setIfInBounds_self_of_lt hsz, HE3.out, fun a ha hn => (HNE.out a ha hn).2⟩))
  have HT4 := Lib.hid (HTS.out.below hb4)
  have HB3' := Lib.hid (HB2.out.trans (HO3.out.toBelow HB2.out.size (fun k hk => by have : k = g := hk; omega)))
  have HB4 := Lib.hid (HB3'.out.trans (hb4.mono HB3'.out.size))
  clear hb4 d0 d1 d2 d3
  go_wp2_with (fail)
  go_ret2
  first | exact ⟨g, c', rfl, HT4.out, HB4.out, by omega⟩ | exact ⟨g, ⟨c', rfl⟩, HT4.out, HB4.out, by omega⟩
set_option maxRecDepth 100000 in
set_option maxHeartbeats 4000000 in
theorem on_record (L : Nat → Prop) (b o cc lun : Nat) (l : List Tb) (t : Tb) (s : ByteArray) (w : World) (h : Tbs w L (some ⟨b, o, none⟩) l) (hLlt : ∀ k, L k → k < w.heap.size) (ho : ∀ t ∈ l, t.Ok) (hn : l.length ≤ 8) (ht : l[lun]? = some t) (hc : (Chg.record s).Ok t.n) :
    Calls Tryz.prog 126 #[chV lun (.record s), .slice (some ⟨b, o, none⟩) l.length cc] w fun e w' => ∃ g c', e = .returned (.tuple #[.slice (some ⟨g, 0, none⟩) l.length c', .bool true]) ∧ Tbs w' (fun k => L k ∨ w.heap.size ≤ k) (some ⟨g, 0, none⟩) (l.set lun ((Chg.record s).ap t)) ∧ Below w.heap.size w w' ∧ w.heap.size ≤ g := by
  have hll : lun < l.length := (List.getElem?_eq_some_iff.1 ht).1
  have HT := Lib.hid (ho t (List.mem_of_getElem? ht))
  have HU := Lib.hid (Chg.ok HT.out hc)
  have HQ := Lib.hid (show s.size ≤ 281474976710656 from Nat.le_trans hc (by decide))
  have HTG := Lib.hid ht
  have HLL := Lib.hid hLlt
  have g1 : ¬ (lun : Int) ≥ (l.length : Int) := by omega
  have g2 : (lun : Int) < (l.length : Int) := by omega
  have g3 : (0 : Int) ≤ (lun : Int) := by omega
  obtain ⟨hx0, hxb⟩ := one_alloc w #[.int .i64 (lun : Int), .int .u8 82, .string (s)] 148 _ rfl
  have HX := Lib.hid hx0; have HXB := Lib.hid hxb
  have HCL := Lib.hid (clone_tbs L b o cc l _ (h.below hxb) (by omega) hn)
  show Calls Tryz.prog 126 #[.agg #[.int .i64 (lun : Int), .int .u8 82, .string (s)], .slice (some ⟨b, o, none⟩) l.length cc] w _
  clear h hx0 hxb ho ht hc hLlt
  go_enter Tryz.func126, Tryz.ntmps126
  go_wp2_with (fail)
  generalize hw1 : w.alloc (.cells #[.int .i64 (lun : Int), .int .u8 82, .string (s)] 148) = w1 at *
  refine HCL.out.mono ?_; rintro e w2 ⟨g, c', cur, rfl, hbk, hgs, hin, hb2⟩
  have HBK := Lib.hid hbk; have HGS := Lib.hid hgs; have HIN := Lib.hid hin
  have HB2 := Lib.hid (HXB.out.trans (hb2.mono HXB.out.size))
  have HX2 := Lib.hid (HX.out.below hb2 HX.out.lt)
  have k0 : w2.cell? ⟨w.heap.size, 0, none⟩ = some (.int .i64 (lun : Int)) := (HX2.out.cell 0).trans rfl
  have k1 : w2.cell? ⟨w.heap.size, 1, none⟩ = some (.int .u8 82) := (HX2.out.cell 1).trans rfl
  have k2 : w2.cell? ⟨w.heap.size, 2, none⟩ = some (.string (s)) := (HX2.out.cell 2).trans rfl
  obtain ⟨E, ce, a0, a1, a2, a3, hex, hexl⟩ := HIN.out lun t HTG.out
  rw [Array.getElem?_toList] at a0 a1 a2 a3
  have hsz := (Array.getElem?_eq_some_iff.1 a3).1
  have hgw : w.heap.size < g := Nat.lt_of_lt_of_le HX.out.lt HGS.out
  have HEX := Lib.hid hex; have HEXL := Lib.hid hexl
  have HA := Lib.hid (And.intro a0 (And.intro a1 (And.intro a2 a3)))
  clear hbk hgs hin hb2 a0 a1 a2 a3 hex hexl HCL hw1
  go_wp2_with (fail)
  refine (clone_any s _ HQ.out).mono ?_; rintro e w2' ⟨rfl, hbc⟩
  have HBC := Lib.hid hbc
  have HBKC := Lib.hid (HBK.out.below hbc HBK.out.lt)
  have HINC := Lib.hid (HIN.out.below hbc)
  have HEXC := Lib.hid (HEX.out.below hbc)
  have HB2C := Lib.hid (HB2.out.trans (hbc.mono HB2.out.size))
  have m0 : w2'.cell? ⟨g, lun * 4 + 2, none⟩ = some (.string t.rc) := (HBKC.out.cell _).trans HA.out.2.2.1
  have n0 := HBKC.out.free (lun * 4 + 2)
  have HB3 := Lib.hid (HBKC.out.put (lun * 4 + 2) (.string s))
  have HO3 := Lib.hid (show Only (fun k => k = g) w2' (w2'.setCell ⟨g, lun * 4 + 2, none⟩ (.string s)) from (Only.refl (fun k => k = g) w2').setCell (p := ⟨g, lun * 4 + 2, none⟩) (.inl rfl) (.string s))
  have hgl := HBKC.out.lt
  have HE3 := Lib.hid (show Exts (w2'.setCell ⟨g, lun * 4 + 2, none⟩ (.string s)) E t.ex from HEXC.out.kept fun hn a ha => Below.heap_setCell _ _ _ _ (fun h => by have := HLL.out _ (HEXL.out a ha hn); have h3 : a.block = g := h; omega))
  clear hbc
  go_upto_region 12 with (fail)
  clear m0 n0 k0 k1 k2
  generalize w2'.setCell ⟨g, lun * 4 + 2, none⟩ (.string s) = w3 at *
  obtain ⟨a0, a1, a2, a3⟩ := HA.out
  have d0 : w3.cell? ⟨g, lun * 4, none⟩ = some (.int .i64 t.n) := (HB3.out.cell _).trans ((set_far (by omega)).trans a0)
  have d1 : w3.cell? ⟨g, lun * 4 + 1, none⟩ = some (.string t.id) := (HB3.out.cell _).trans ((set_far (by omega)).trans a1)
  have d2 : w3.cell? ⟨g, lun * 4 + 2, none⟩ = some (.string s) := (HB3.out.cell _).trans (Array.getElem?_setIfInBounds_self_of_lt (by omega))
  have d3 : w3.cell? ⟨g, lun * 4 + 3, none⟩ = some (.slice E t.ex.length ce) := (HB3.out.cell _).trans ((set_far (by omega)).trans a3)
  have HSD := Lib.hid (tb_sound ((Chg.record s).ap t) E ce w3 HU.out HE3.out)
  change Hid (Calls Tryz.prog 114 #[.agg #[.int .i64 t.n, .string t.id,   .string s, .slice E t.ex.length ce]] w3 _) at HSD
  clear a0 a1 a2 a3
  go_wp2_with (fail)
  refine HSD.out.mono ?_; rintro e w4 ⟨rfl, hb4⟩
  have HTS := Lib.hid (on_done (lun := lun) (M := fun k => L k ∨ w.heap.size ≤ k) (u := (Chg.record s).ap t) HINC.out HB3.out HO3.out (fun k hk => ⟨Nat.lt_of_lt_of_le (HLL.out k hk) HB2C.out.size, fun h => by have := HLL.out k hk; omega⟩) (fun k hk => .inl hk) (.inr (by omega))
    (fun i hi => set_far (i := lun * 4 + 2) (by omega))
    (by
      obtain ⟨a0, a1, a2, a3⟩ := HA.out
      exact ⟨E, ce, (set_far (by omega)).trans a0, (set_far (by omega)).trans a1, Array.getElem?_setIfInBounds_self_of_lt (by omega), (set_far (by omega)).trans a3, HE3.out, fun a ha hn => .inl (HEXL.out a ha hn)⟩))
  have HT4 := Lib.hid (HTS.out.below hb4)
  have HB3' := Lib.hid (HB2C.out.trans (HO3.out.toBelow HB2C.out.size (fun k hk => by have : k = g := hk; omega)))
  have HB4 := Lib.hid (HB3'.out.trans (hb4.mono HB3'.out.size))
  clear hb4 d0 d1 d2 d3
  go_wp2_with (fail)
  go_ret2
  first | exact ⟨g, c', rfl, HT4.out, HB4.out, by omega⟩ | exact ⟨g, ⟨c', rfl⟩, HT4.out, HB4.out, by omega⟩
theorem on_any (L : Nat → Prop) (b o cc lun : Nat) (l : List Tb) (t : Tb) (c : Chg) (w : World) (h : Tbs w L (some ⟨b, o, none⟩) l) (hLlt : ∀ k, L k → k < w.heap.size) (ho : ∀ t ∈ l, t.Ok) (hn : l.length ≤ 8) (ht : l[lun]? = some t) (hc : c.Ok t.n) :
    Calls Tryz.prog 126 #[chV lun c, .slice (some ⟨b, o, none⟩) l.length cc] w fun e w' => ∃ g c', e = .returned (.tuple #[.slice (some ⟨g, 0, none⟩) l.length c', .bool true]) ∧ Tbs w' (fun k => L k ∨ w.heap.size ≤ k) (some ⟨g, 0, none⟩) (l.set lun (c.ap t)) ∧ Below w.heap.size w w' ∧ w.heap.size ≤ g := by
  cases c with
  | wrote q => exact on_wrote L b o cc lun l t q w h hLlt ho hn ht hc
  | cleared rs => exact on_cleared L b o cc lun l t rs w h hLlt ho hn ht hc
  | record s => exact on_record L b o cc lun l t s w h hLlt ho hn ht hc
def applyL (l : List Tb) (x : Nat × Chg) : List Tb := match l[x.1]? with | some t => l.set x.1 (x.2.ap t) | none => l
def playL (l : List Tb) (xs : List (Nat × Chg)) : List Tb := xs.foldl applyL l
def ChOk (l : List Tb) (x : Nat × Chg) : Prop := ∃ t, l[x.1]? = some t ∧ x.2.Ok t.n
theorem ap_n (c : Chg) (t : Tb) : (c.ap t).n = t.n := by cases c <;> rfl
theorem ap_id (c : Chg) (t : Tb) : (c.ap t).id = t.id := by cases c <;> rfl
theorem apply_some {l : List Tb} {x : Nat × Chg} {t : Tb} (h : l[x.1]? = some t) : applyL l x = l.set x.1 (x.2.ap t) := by unfold applyL; rw [h]
theorem apply_length (l : List Tb) (x : Nat × Chg) : (applyL l x).length = l.length := by
  unfold applyL
  split
  · exact List.length_set
  · rfl
theorem apply_at {l : List Tb} {x : Nat × Chg} {j : Nat} {t : Tb} (h : l[j]? = some t) : ∃ u, (applyL l x)[j]? = some u ∧ u.n = t.n ∧ u.id = t.id := by
  unfold applyL
  split
  · rename_i v hv
    by_cases e : x.1 = j
    · subst e
      rw [hv] at h
      obtain rfl := Option.some.inj h
      exact ⟨x.2.ap v, List.getElem?_set_self (List.getElem?_eq_some_iff.1 hv).1, ap_n _ _, ap_id _ _⟩
    · exact ⟨t, by rw [List.getElem?_set_ne e]; exact h, rfl, rfl⟩
  · exact ⟨t, h, rfl, rfl⟩
theorem ChOk.apply {l : List Tb} {x y : Nat × Chg} (h : ChOk l y) : ChOk (applyL l x) y := by
  obtain ⟨t, ht, hc⟩ := h
  obtain ⟨u, hu, hn, _⟩ := apply_at (x := x) ht
  exact ⟨u, hu, hn ▸ hc⟩
theorem apply_ok {l : List Tb} {x : Nat × Chg} (hl : ∀ t ∈ l, t.Ok) (hx : ChOk l x) : ∀ t ∈ applyL l x, t.Ok := by
  obtain ⟨t, ht, hc⟩ := hx
  rw [apply_some ht]
  intro u hu
  rcases List.mem_or_eq_of_mem_set hu with hu | rfl
  · exact hl u hu
  · exact Chg.ok (hl t (List.mem_of_getElem? ht)) hc
theorem play_snoc (l : List Tb) (xs : List (Nat × Chg)) (x : Nat × Chg) : playL l (xs ++ [x]) = applyL (playL l xs) x := by unfold playL; rw [List.foldl_append]; rfl
theorem play_all : ∀ {xs : List (Nat × Chg)} {l : List Tb}, (∀ t ∈ l, t.Ok) → (∀ x ∈ xs, ChOk l x) → (∀ t ∈ playL l xs, t.Ok) ∧ (playL l xs).length = l.length ∧ ∀ y, ChOk l y → ChOk (playL l xs) y
  | [], _, hl, _ => ⟨hl, rfl, fun _ h => h⟩
  | x :: xs, l, hl, h => by
    obtain ⟨h1, h2, h3⟩ := play_all (xs := xs) (l := applyL l x) (apply_ok hl (h x (List.mem_cons_self ..))) (fun y hy => (h y (List.mem_cons_of_mem _ hy)).apply)
    exact ⟨h1, h2.trans (apply_length l x), fun y hy => h3 y hy.apply⟩
def chText (x : Nat × Chg) : ByteArray := chB x.1 x.2
def RpAt (w : World) (l : List Tb) (xs : List (Nat × Chg)) (i v ok : Value) (wr : World) : Prop :=
  ∃ (k b o c : Nat), i = .int .i64 k ∧ k ≤ xs.length ∧ v = .slice (some ⟨b, o, none⟩) l.length c ∧ ok = .bool true ∧ Tbs wr (fun k => w.heap.size ≤ k ∧ k < wr.heap.size) (some ⟨b, o, none⟩) (playL l (xs.take k)) ∧ Below w.heap.size w wr
theorem Tbs.lt {w : World} {L : Nat → Prop} {A : Option Addr} {l : List Tb} (h : Tbs w L A l) : Tbs w (fun k => L k ∧ k < w.heap.size) A l := fun hn => by
  obtain ⟨b, o, rfl, hL, ht⟩ := h hn
  have hb : b < w.heap.size := by
    obtain ⟨E, c, c0, _⟩ := ht 0 _ (List.getElem?_eq_getElem hn)
    exact World.block_lt_of_cell? _ _ c0
  refine ⟨b, o, rfl, ⟨hL, hb⟩, fun j t hj => ?_⟩
  obtain ⟨E, c, c0, c1, c2, c3, he, hl⟩ := ht j t hj
  exact ⟨E, c, c0, c1, c2, c3, he, fun a ha hn => ⟨hl a ha hn, he.lt hn a ha⟩⟩
set_option maxRecDepth 100000 in
set_option maxHeartbeats 4000000 in
theorem replay_any (A : Option Addr) (c2 : Nat) (l : List Tb) (xs : List (Nat × Chg)) (w : World) (ho : ∀ t ∈ l, t.Ok) (h1 : 1 ≤ l.length) (hn : l.length ≤ 8) (hx : ∀ x ∈ xs, ChOk l x) (hs : Seen w A (xs.map chText)) (hxl : xs.length ≤ 8192) :
    Calls Tryz.prog 177 #[.string (baseB l), .slice A xs.length c2] w fun e w' => ∃ b o c, e = .returned (.tuple #[.slice (some ⟨b, o, none⟩) l.length c, .bool true]) ∧ Tbs w' (fun k => w.heap.size ≤ k) (some ⟨b, o, none⟩) (playL l xs) ∧ Below w.heap.size w w' := by
  have HP := Lib.hid (parse_tb l w ho h1 hn)
  have HO := Lib.hid ho
  have HX := Lib.hid hx
  have HS := Lib.hid hs
  have hnot : ∀ (x : Bool) (w : World), (Op.unary .not (.bool x)).run Tryz.prog w = .ok (.bool (!x)) w := fun _ _ => rfl
  clear ho hx hs
  go_enter Tryz.func177, Tryz.ntmps177
  go_wp2_with (fail)
  refine HP.out.mono ?_; rintro e w1 ⟨A1, c1, rfl, ht1, hb1⟩
  obtain ⟨b1, o1, rfl, _⟩ := ht1 h1
  have HT1 := Lib.hid ht1; have HB1 := Lib.hid hb1
  clear ht1 hb1
  go_wp2_with (fail)
  go_loopw [17, 6, 7] (fun i v ok wr => RpAt w l xs i v ok wr) (fun i _ _ _ => xs.length - (intOf i).toNat)
  case atStart => exact ⟨0, b1, o1, c1, rfl, Nat.zero_le _, rfl, rfl, HT1.out.lt, HB1.out⟩
  case round =>
    obtain ⟨k, b, o, c, rfl, hk, rfl, rfl, ht, hb⟩ := hrel
    have HT := Lib.hid ht; have HB := Lib.hid hb
    clear ht hb
    by_cases hlt : k < xs.length
    · have hki : (k : Int) < xs.length := by omega
      obtain ⟨x, hat⟩ : ∃ x, xs[k]? = some x := ⟨_, List.getElem?_eq_getElem hlt⟩
      obtain ⟨p1, p2, p3⟩ := play_all HO.out (xs := xs.take k) (fun y hy => HX.out y (List.mem_of_mem_take hy))
      obtain ⟨t, htx, hcx⟩ := p3 x (HX.out x (List.mem_of_getElem? hat))
      have hx8 : x.1 < 8 := by have := (List.getElem?_eq_some_iff.1 htx).1; omega
      have HST := Lib.hid (show playL l (xs.take (k + 1)) = (playL l (xs.take k)).set x.1 (x.2.ap t) by rw [List.take_add_one, hat, Option.toList_some, play_snoc, apply_some htx])
      have hbz := Chg.body_size hcx
      have HRC := Lib.hid (fun v => read_change x.1 x.2 v hx8 (by omega))
      have HON := Lib.hid (fun v (hv : Below wr.heap.size wr v) => on_any (fun k => w.heap.size ≤ k ∧ k < wr.heap.size) b o c x.1 (playL l (xs.take k)) t x.2 v (HT.out.below hv) (fun k hk => Nat.lt_of_lt_of_le hk.2 hv.size) p1 (by omega) htx hcx)
      rw [p2] at HON
      obtain ⟨sb, so, rfl, hct⟩ := HS.out k (chText x) (by rw [List.getElem?_map, hat]; rfl)
      have d1 := (HB.out.cell (p := ⟨sb, so + k, none⟩) (World.block_lt_of_cell? _ _ hct)).trans hct
      have x0 : (0 : Int) ≤ (k : Int) := by omega
      change Hid (∀ v, Calls Tryz.prog 202 #[.string (chText x)] v _) at HRC
      clear hct hat p1 p2 p3 htx hcx hbz hx8
      generalize chText x = tx at *
      generalize chV x.1 x.2 = cv at *
      go_wp2_with (fail)
      refine (HRC.out _).mono ?_; rintro e w2 ⟨rfl, hb2⟩
      have B2 := Lib.hid hb2; clear hb2
      go_wp2_with (fail)
      refine (HON.out _ B2.out).mono ?_; rintro e w3 ⟨g, c', rfl, ht3, hb3, hg3⟩
      have B3 := Lib.hid (B2.out.trans (hb3.mono B2.out.size))
      have HT3 := Lib.hid (show Tbs w3 (fun k => w.heap.size ≤ k ∧ k < w3.heap.size) (some ⟨g, 0, none⟩) (playL l (xs.take (k + 1))) from by
        rw [HST.out]
        have hs1 := HB.out.size
        have hs2 := B2.out.size
        refine (ht3.mono (M := fun k => w.heap.size ≤ k) fun i hi => ?_).lt
        rcases hi with hi | hi
        · exact hi.1
        · omega)
      have HB3 := Lib.hid (HB.out.trans (B3.out.mono HB.out.size))
      clear ht3 hb3 HON
      go_wp2_with (fail)
      go_roundw
      case rel => exact ⟨k + 1, g, 0, c', by go_num, by omega, rfl, rfl, HT3.out, HB3.out⟩
      case measure => simp [intOf]; omega
    · obtain rfl : k = xs.length := by omega
      have hge : ¬ (xs.length : Int) < xs.length := by omega
      rw [List.take_length] at HT
      go_wp2_with (fail)
      go_ret2
      first | exact ⟨b, o, c, rfl, HT.out.mono (fun k hk => hk.1), HB.out⟩ | exact ⟨b, o, ⟨c, rfl⟩, HT.out.mono (fun k hk => hk.1), HB.out⟩ | exact ⟨b, ⟨o, c, rfl⟩, HT.out.mono (fun k hk => hk.1), HB.out⟩
end Go.Proofs.YtglfjlbhjaemgaaGreatDoor
