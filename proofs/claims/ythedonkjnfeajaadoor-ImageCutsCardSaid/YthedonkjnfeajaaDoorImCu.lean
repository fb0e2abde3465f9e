/- An image that is cut off, that has a byte more, of which one byte is turned. -/
import Derived.Test.YthedonkjnfeajaaDoorImBk
import Derived.Test.YthedonkjnfeajaaDoorImS
import Derived.Test.YthedonkjnfeajaaDoorImV
import Derived.Lib.ConvBytes
import Derived.RegionTactic
import Derived.BigRegion
namespace Go.Proofs.YthedonkjnfeajaaDoor
open Go.RowKit
theorem list_size (a : ByteArray) : a.data.toList.length = a.size := by simp
theorem putOne_set (s : ByteArray) (k : Nat) (p : UInt8) (h : k < s.size) : lst (putOne s k p) = (lst s).set k p := by
  rw [putOne_lst, List.set_eq_take_append_cons_drop, if_pos (by rw [lst_len]; exact h)]
/-- From place 0 of block b on stand the bytes of g. -/
def BytesAt (w : World) (b : Nat) (g : ByteArray) : Prop := ∀ j, j < g.size → w.cell? ⟨b, j, none⟩ = some (.int .u8 (byt g j))
theorem bytes_str {w : World} {b cap : Nat} {g : ByteArray} (h : BytesAt w b g) : Sem.run Tryd.prog (convert 44 9 (Value.slice (some ⟨b, 0, none⟩) g.size cap)) w = .ok (.string g) w := by
  have := run_convert_bytes_back (P := Tryd.prog) w 44 9 5 ⟨b, 0, none⟩ cap g.data.toList Tryd.underlying44 Tryd.underlying5 Tryd.underlying9 (fun j hj => by
    rw [Addr.add_lit, Nat.zero_add, h j (by simpa using hj)]
    unfold byt
    rw [List.getD, List.getElem?_eq_getElem hj]
    rfl)
  rw [list_size] at this
  rw [this]
theorem BytesAt.below {w w' : World} {b : Nat} {g : ByteArray} (h : BytesAt w b g) (hb : Below w.heap.size w w') (hlt : b < w.heap.size) : BytesAt w' b g := fun j hj => (hb.cell (p := ⟨b, j, none⟩) hlt).trans (h j hj)
theorem bytesWorld_below (w : World) (s : ByteArray) : Below w.heap.size w (Lib.bytesWorld w 5 s) :=
  ⟨rfl, rfl, rfl, by rw [Lib.bytesWorld_size]; omega, fun k hk => Lib.bytesWorld_at_old w 5 s k hk⟩
theorem bytesWorld_free (w : World) (s : ByteArray) (k : Nat) (hk : k < s.size) : (Lib.bytesWorld w 5 s).frozen? ⟨w.heap.size, k, none⟩ = false := by
  have hz : (Lib.bytesCells w 5 s).size ≥ s.size := by unfold Lib.bytesCells; simp
  simp only [World.frozen?, Lib.bytesWorld_at_new]
  simp
  omega
theorem put_bytes (w : World) (s : ByteArray) (k : Nat) (c : UInt8) (hk : k < s.size) : BytesAt ((Lib.bytesWorld w 5 s).setCell ⟨w.heap.size, k, none⟩ (.int .u8 (c.toNat : Int))) w.heap.size (putOne s k c) := by
  intro j hj
  have hj' : j < s.size := by rw [putOne_size s k c (by omega)] at hj; exact hj
  by_cases e : k = j
  · subst e
    rw [World.cell?_setCell_same _ _ _ (Lib.bytesWorld_cell w 5 s k hk)]
    unfold byt
    have : (putOne s k c).data.toList = (s.data.toList).set k c := putOne_set s k c hk
    rw [this, List.getD, List.getElem?_set_self (by simpa using hk)]
    rfl
  · have hne : (⟨w.heap.size, k, none⟩ : Addr) ≠ ⟨w.heap.size, j, none⟩ := by intro h; injection h with h1 h2; exact e h2
    rw [World.cell?_setCell_other _ _ _ _ hne]
    rw [Lib.bytesWorld_cell w 5 s j hj']
    have : (putOne s k c).data.toList = (s.data.toList).set k c := putOne_set s k c hk
    unfold byt
    rw [this, List.getD, List.getD, List.getElem?_set_ne e]
theorem conv_lastC (v : World) (g : Nat) (y : UInt8) (h : Blk v g 5 #[.int .u8 (y.toNat : Int)]) :
    Sem.run Tryd.prog (convert 44 9 (Value.slice (some { block := g, off := 0 }) 1 1)) v = Result.ok (Value.string (baL [y])) v := by
  refine conv_bytes v g [y] (fun j hj => ?_) 1 rfl
  match j, hj with
  | 0, _ => rw [h.cell]; rfl
theorem cut_no {t : Tl} (hg : GoodP t) (hu : TlU t) {k : Nat} (hk : k < (baL (imgL t)).size) : imB ((baL (imgL t)).extract 0 k) = false := by
  cases h : imB ((baL (imgL t)).extract 0 k) with
  | false => rfl
  | true =>
    exfalso
    obtain ⟨t', hg', hu', he⟩ := imB_iff.1 h
    rw [ext_lst, lst_baL, List.drop_zero] at he
    have q : imgL t' ++ (imgL t).drop k = imgL t := by rw [← he, List.take_append_drop]
    have := (img_cut hg' hu' hg hu q).2
    have z := congrArg List.length this
    rw [List.length_drop] at z
    rw [baL_size] at hk
    simp at z
    omega
theorem more_no {t : Tl} (hg : GoodP t) (hu : TlU t) (y : UInt8) : imB (baL (imgL t) ++ baL [y]) = false := by
  cases h : imB (baL (imgL t) ++ baL [y]) with
  | false => rfl
  | true =>
    exfalso
    obtain ⟨t', hg', hu', he⟩ := imB_iff.1 h
    rw [lst_append, lst_baL, lst_baL] at he
    have := (img_cut hg hu hg' hu' he).2
    cases this
theorem turn_no {t : Tl} {k : Nat} {y : UInt8} (hk : k < (baL (imgL t)).size) (hne : putOne (baL (imgL t)) k y ≠ baL (imgL t)) : imB (putOne (baL (imgL t)) k y) = false := by
  cases h : imB (putOne (baL (imgL t)) k y) with
  | false => rfl
  | true =>
    exfalso
    obtain ⟨t', _, _, he⟩ := imB_iff.1 h
    rw [putOne_lst, lst_baL] at he
    rw [baL_size] at hk
    have e1 := split_one (imgL t) k (by omega)
    have e2 := img_turn e1 he.symm
    apply hne
    apply lst_inj
    rw [putOne_lst, lst_baL, ← e2]
    exact e1.symm
set_option maxRecDepth 100000 in
set_option maxHeartbeats 8000000 in
theorem cuts_any (A : Option Addr) (c : Nat) (t : Tl) (a : Int) (y : UInt8) (w : World) (hl : Rgs w A t.rs) (hm : t.rs.length ≤ maxLen) (hu : TlU t) (ht : Tab w) : Calls Tryd.prog 6 #[tlV A c t, .int .i64 a, .int .u8 (y.toNat : Int)] w fun e w' => e = .returned (.bool true) ∧ Below w.heap.size w w' := by
  obtain ⟨h1, h2, h3⟩ := tl_box w A c t _ rfl
  have HX := Lib.hid (TBx.first w A c t hl); have HB := Lib.hid h2
  have HT := Lib.hid (ht.below h2)
  have HM := Lib.hid hm; have HU := Lib.hid hu
  clear h1 h2 h3 hl hm hu ht
  go_enter Tryd.func6, Tryd.ntmps6
  go_upto_region 1 with (fail)
  change Code.wp _ _ _ _ (w.alloc (.cells (tlC A c t) 27))
  generalize w.alloc (.cells (tlC A c t) 27) = w0 at *
  have c0 : w0.cell? ⟨w.heap.size, 0, none⟩ = some (.slice A t.rs.length c) := HX.out.bx.cell 0
  have c1 : w0.cell? ⟨w.heap.size, 1, none⟩ = some (.int .i64 t.ty) := HX.out.bx.cell 1
  have c2 : w0.cell? ⟨w.heap.size, 2, none⟩ = some (.string t.ho) := HX.out.bx.cell 2
  have c3 : w0.cell? ⟨w.heap.size, 3, none⟩ = some (.int .u32 t.ge) := HX.out.bx.cell 3
  have c4 : w0.cell? ⟨w.heap.size, 4, none⟩ = some (.bool t.ap) := HX.out.bx.cell 4
  go_wp2_with (fail)
  refine (largeX_any A c t _ HX.out.rg HM.out).mono ?_; rintro e w1 ⟨r, rfl, hr, hb⟩
  have HX1 := Lib.hid (HX.out.below hb); have HB1 := Lib.hid (HB.out.trans (hb.mono HB.out.size)); have HT1 := Lib.hid (HT.out.below hb)
  have HR := Lib.hid hr
  clear hb hr c0 c1 c2 c3 c4 HX HB HT
  cases r with
  | true =>
    clear HR
    go_wp2_with (fail)
    refine (img_wakes _ HT1.out).mono ?_; rintro e w9 ⟨rfl, hb⟩
    have HB9 := Lib.hid (HB1.out.trans (hb.mono HB1.out.size))
    clear hb
    go_wp2_with (fail)
    go_ret
    exact ⟨rfl, HB9.out⟩
  | false =>
    have HN := Lib.hid (show t.rs.length ≤ 1000 from Nat.le_trans (HR.out rfl).1 (by decide))
    clear HR
    have c0 : w1.cell? ⟨w.heap.size, 0, none⟩ = some (.slice A t.rs.length c) := HX1.out.bx.cell 0
    have c1 : w1.cell? ⟨w.heap.size, 1, none⟩ = some (.int .i64 t.ty) := HX1.out.bx.cell 1
    have c2 : w1.cell? ⟨w.heap.size, 2, none⟩ = some (.string t.ho) := HX1.out.bx.cell 2
    have c3 : w1.cell? ⟨w.heap.size, 3, none⟩ = some (.int .u32 t.ge) := HX1.out.bx.cell 3
    have c4 : w1.cell? ⟨w.heap.size, 4, none⟩ = some (.bool t.ap) := HX1.out.bx.cell 4
    go_wp2_with (fail)
    refine (copy_any A c t _ HX1.out.rg HN.out).mono ?_; rintro e w2 ⟨A2, n2, rfl, ho, hb⟩
    have HB2 := Lib.hid (HB1.out.trans (hb.mono HB1.out.size)); have HT2 := Lib.hid (HT1.out.below hb); have HO2 := Lib.hid ho.rgs
    clear hb ho c0 c1 c2 c3 c4 HX1 HB1 HT1
    go_wp2_with (fail)
    refine (encode_any A2 n2 t _ HO2.out HM.out HU.out HT2.out).mono ?_; rintro e w3 ⟨rfl, hb⟩
    have HB3 := Lib.hid (HB2.out.trans (hb.mono HB2.out.size)); have HT3 := Lib.hid (HT2.out.below hb)
    clear hb HB2 HT2 HO2
    cases hg : goodB t with
    | false =>
      rw [(enc_bad hg).1, (enc_bad hg).2]
      clear hg
      go_wp2_with (fail)
      refine (img_wakes _ HT3.out).mono ?_; rintro e w9 ⟨rfl, hb⟩
      have HB9 := Lib.hid (HB3.out.trans (hb.mono HB3.out.size))
      clear hb
      go_wp2_with (fail)
      go_ret
      exact ⟨rfl, HB9.out⟩
    | true =>
      have hP := goodB_iff.1 hg
      rw [(enc_good hg).1, (enc_good hg).2]
      have hz := img_size hP
      have hlo : 16 ≤ (baL (imgL t)).size := by
        rw [baL_size]
        unfold imgL bodyL
        rw [List.length_append, List.length_append, dig_len, head_len]
        omega
      obtain ⟨k, hk, hk2⟩ := place_at a (baL (imgL t)).size (by omega)
      have hkf : k < (baL (imgL t)).size := by omega
      have HC1 := Lib.hid (decT_no (cut_no hP HU.out hkf))
      have HC2 := Lib.hid (decT_no (more_no hP HU.out y))
      have HC3 := Lib.hid (fun (h : putOne (baL (imgL t)) k y ≠ baL (imgL t)) => decT_no (turn_no hkf h))
      have HC4 := Lib.hid (dec_img hP HU.out)
      clear hg hP
      generalize baL (imgL t) = f at *
      have hem : f.toList.isEmpty = false := by
        cases h : f.toList.isEmpty with
        | false => rfl
        | true => rw [mt_iff.1 h] at hlo; exact absurd hlo (by decide)
      have hcv := Lib.run_convert_string_bytes (P := Tryd.prog) w3 9 44 5 f Tryd.underlying9 Tryd.underlying44 Tryd.underlying5
      have hkc := Lib.bytesWorld_cell w3 5 f k hkf
      have hkz := bytesWorld_free w3 f k hkf
      have hki : (k : Int) < f.size := by omega
      have hB := put_bytes w3 f k y hkf
      have hgz : (putOne f k y).size = f.size := putOne_size f k y (by omega)
      have H2 := Lib.hid (HB3.out.trans (((bytesWorld_below w3 f).setCell (p := ⟨w3.heap.size, k, none⟩) (Nat.le_refl _) (.int .u8 (y.toNat : Int))).mono HB3.out.size))
      have HT4 := Lib.hid (HT3.out.below ((bytesWorld_below w3 f).setCell (p := ⟨w3.heap.size, k, none⟩) (Nat.le_refl _) (.int .u8 (y.toNat : Int))))
      have HL := Lib.hid (show w3.heap.size < ((Lib.bytesWorld w3 5 f).setCell ⟨w3.heap.size, k, none⟩ (.int .u8 (y.toNat : Int))).heap.size by rw [World.size_setCell, Lib.bytesWorld_size]; omega)
      have HBy := Lib.hid hB
      have qf : IntKind.u64.wrap (f.size : Int) = f.size := by rw [IntKind.wrap_u64]; omega
      clear hB
      go_upto_region 11 with (fail)
      rw [hk]
      clear hk hk2 hcv hkc hkz qf HB3 HT3
      generalize (Lib.bytesWorld w3 5 f).setCell ⟨w3.heap.size, k, none⟩ (.int .u8 (y.toNat : Int)) = w4 at *
      generalize grownCap w3 f.size 0 5 = cp at *
      generalize w3.heap.size = bl at *
      have hki2 : (k : Int) ≤ f.size := by omega
      have hcp : ((k : Int)).toNat = k := by omega
      go_wp2_with (fail)
      refine (decode_any (f.extract 0 k) _ (by rw [ByteArray.size_extract]; omega) HT4.out).mono ?_; rintro e v0 ⟨A9, n9, rfl, ho, hb⟩
      rw [HC1.out.1] at ho
      rw [HC1.out.1, HC1.out.2]
      have hbb := hb.trans ((bel_alloc v0 (.cells (tlC A9 n9 tZ) 27)).mono hb.size)
      have G1 := Lib.hid (H2.out.trans (hbb.mono H2.out.size))
      have T1 := Lib.hid (HT4.out.below hbb)
      have Y1 := Lib.hid (HBy.out.below hbb HL.out)
      have HLY1 := Lib.hid (Nat.lt_of_lt_of_le HL.out hbb.size)
      clear hb hbb ho
      go_upto_region 12 with (fail)
      change Code.wp _ _ _ _ (v0.alloc (.cells (tlC A9 n9 tZ) 27))
      generalize hww : v0.alloc (.cells (tlC A9 n9 tZ) 27) = v1 at *
      clear hww
      generalize v0.heap.size = p1
      obtain ⟨o1, ho1⟩ : ∃ x, x = baL [y] := ⟨_, rfl⟩
      have ho1z : o1.size = 1 := by rw [ho1]; rfl
      have hcc : ¬ 9223372036854775807 < f.size + o1.size := by omega
      rw [← ho1] at HC2
      have cv12 := conv_lastC (v1.alloc (.cells #[.int .u8 (y.toNat : Int)] 5)) v1.heap.size y (Blk.new v1 5 _)
      rw [← ho1] at cv12
      have hbx := bel_alloc v1 (.cells #[.int .u8 (y.toNat : Int)] 5)
      have G2 := Lib.hid (G1.out.trans (hbx.mono G1.out.size)); have T2 := Lib.hid (T1.out.below hbx); have Y2 := Lib.hid (Y1.out.below hbx HLY1.out); have HLY2 := Lib.hid (Nat.lt_of_lt_of_le HLY1.out hbx.size)
      clear hbx ho1 hem
      go_wp2_with (fail)
      clear cv12
      generalize v1.alloc (.cells #[.int .u8 (y.toNat : Int)] 5) = v2 at *
      refine (decode_any (f ++ o1) _ (by rw [ByteArray.size_append]; omega) T2.out).mono ?_; rintro e v3 ⟨A9, n9, rfl, ho, hb⟩
      rw [HC2.out.1] at ho
      rw [HC2.out.1, HC2.out.2]
      have hbb := hb.trans ((bel_alloc v3 (.cells (tlC A9 n9 tZ) 27)).mono hb.size)
      have G3 := Lib.hid (G2.out.trans (hbb.mono G2.out.size))
      have T3 := Lib.hid (T2.out.below hbb)
      have Y3 := Lib.hid (Y2.out.below hbb HLY2.out)
      have HLY2Y3 := Lib.hid (Nat.lt_of_lt_of_le HLY2.out hbb.size)
      clear hb hbb ho
      go_upto_region 13 with (fail)
      change Code.wp _ _ _ _ (v3.alloc (.cells (tlC A9 n9 tZ) 27))
      generalize hww : v3.alloc (.cells (tlC A9 n9 tZ) 27) = v4 at *
      clear hww
      generalize v3.heap.size = p2
      have hgN : (putOne f k y).size ≤ 100000 := by rw [hgz]; omega
      have cv13 := bytes_str (cap := cp) Y3.out
      rw [hgz] at cv13
      by_cases he : putOne f k y = f
      · have e1 : ((putOne f k y).toList == f.toList) = true := by rw [he]; simp
        rw [he] at Y3 cv13 e1
        clear HC3 he hgz hgN
        go_wp2_with (fail)
        clear cv13
        refine (decode_any f _ (by omega) T3.out).mono ?_; rintro e v5 ⟨A9, n9, rfl, ho, hb⟩
        rw [HC4.out.1] at ho
        rw [HC4.out.1, HC4.out.2]
        have hbb := hb.trans ((bel_alloc v5 (.cells (tlC A9 n9 t) 27)).mono hb.size)
        have G4 := Lib.hid (G3.out.trans (hbb.mono G3.out.size))
        have T4 := Lib.hid (T3.out.below hbb)
        have Y4 := Lib.hid (Y3.out.below hbb HLY2Y3.out)
        have HLY2Y3Y4 := Lib.hid (Nat.lt_of_lt_of_le HLY2Y3.out hbb.size)
        clear hb hbb ho
        go_upto_region 14 with (fail)
        change Code.wp _ _ _ _ (v5.alloc (.cells (tlC A9 n9 t) 27))
        generalize hww : v5.alloc (.cells (tlC A9 n9 t) 27) = v6 at *
        clear hww
        generalize v5.heap.size = p3
        have cv14 := bytes_str (cap := cp) Y4.out
        go_wp2_with (fail)
        refine (img_wakes _ T4.out).mono ?_; rintro e w9 ⟨rfl, hb⟩
        have HB9 := Lib.hid (G4.out.trans (hb.mono G4.out.size))
        clear hb
        go_wp2_with (fail)
        go_ret
        exact ⟨rfl, HB9.out⟩
      · have hne : ((putOne f k y).toList == f.toList) = false := by
          have := eqS_no.2 he
          exact this
        have HC3b := Lib.hid (HC3.out he)
        clear HC3 he
        generalize putOne f k y = gg at *
        go_wp2_with (fail)
        clear cv13
        refine (decode_any gg _ hgN T3.out).mono ?_; rintro e v5 ⟨A9, n9, rfl, ho, hb⟩
        rw [HC3b.out.1] at ho
        rw [HC3b.out.1, HC3b.out.2]
        have hbb := hb.trans ((bel_alloc v5 (.cells (tlC A9 n9 tZ) 27)).mono hb.size)
        have G4 := Lib.hid (G3.out.trans (hbb.mono G3.out.size))
        have T4 := Lib.hid (T3.out.below hbb)
        have Y4 := Lib.hid (Y3.out.below hbb HLY2Y3.out)
        have HLY2Y3Y4 := Lib.hid (Nat.lt_of_lt_of_le HLY2Y3.out hbb.size)
        clear hb hbb ho
        go_upto_region 14 with (fail)
        change Code.wp _ _ _ _ (v5.alloc (.cells (tlC A9 n9 tZ) 27))
        generalize hww : v5.alloc (.cells (tlC A9 n9 tZ) 27) = v6 at *
        clear hww
        generalize v5.heap.size = p3
        have cv14 := bytes_str (cap := cp) Y4.out
        rw [hgz] at cv14
        go_wp2_with (fail)
        refine (img_wakes _ T4.out).mono ?_; rintro e w9 ⟨rfl, hb⟩
        have HB9 := Lib.hid (G4.out.trans (hb.mono G4.out.size))
        clear hb
        go_wp2_with (fail)
        go_ret
        exact ⟨rfl, HB9.out⟩
end Go.Proofs.YthedonkjnfeajaaDoor
