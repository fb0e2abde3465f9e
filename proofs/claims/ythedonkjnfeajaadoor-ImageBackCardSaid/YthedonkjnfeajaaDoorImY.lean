/- Encode and Decode, the program's. -/
import Derived.Test.YthedonkjnfeajaaDoorImX
import Derived.Test.YthedonkjnfeajaaDoorImE
namespace Go.Proofs.YthedonkjnfeajaaDoor
open Go.RowKit
/-- The image of a table, or nothing; what Encode says besides. -/
def encS (t : Tl) : ByteArray := if goodB t = true then baL (imgL t) else ⟨#[]⟩
def encC (t : Tl) : Int := if goodB t = true then 0 else 1
theorem img_append (t : Tl) : baL (bodyL t) ++ digV (baL (bodyL t)) = baL (imgL t) := by
  apply lst_inj
  rw [lst_append, lst_baL, lst_baL]
  rfl
theorem body_length {t : Tl} (hg : GoodP t) : (bodyL t).length ≤ 2000 := by
  unfold bodyL
  rw [List.length_append, head_len]
  have h1 := regsL_length hg.sizes
  have h2 := hg.len
  omega
theorem baL_size (l : List UInt8) : (baL l).size = l.length := by rw [← lst_len, lst_baL]
set_option maxRecDepth 100000 in
set_option maxHeartbeats 2000000 in
theorem encode_any (A : Option Addr) (c : Nat) (t : Tl) (w : World) (hl : Rgs w A t.rs) (hm : t.rs.length ≤ maxLen) (hu : TlU t) (ht : Tab w) :
    Calls Tryd.prog 11 #[tlV A c t] w fun e w' => e = .returned (.tuple #[.string (encS t), .int .i64 (encC t)]) ∧ Below w.heap.size w w' := by
  obtain ⟨h1, h2, h3⟩ := tl_box w A c t _ rfl
  have HT := Lib.hid h1; have HB := Lib.hid h2
  have HL := Lib.hid (hl.below h2)
  have HTb := Lib.hid (ht.below h2)
  have HU := Lib.hid hu
  have HM := Lib.hid hm
  clear h1 h2 h3 hl hm hu ht
  unfold encS encC
  cases hg : goodB t with
  | false =>
    have HG := Lib.hid hg; clear hg
    go_enter Tryd.func11, Tryd.ntmps11
    go_upto_region 1 with (fail)
    change Code.wp _ _ _ _ (w.alloc (.cells (tlC A c t) 27))
    generalize w.alloc (.cells (tlC A c t) 27) = w0 at *
    have c0 : w0.cell? ⟨w.heap.size, 0, none⟩ = some (.slice A t.rs.length c) := HT.out.cell 0
    have c1 : w0.cell? ⟨w.heap.size, 1, none⟩ = some (.int .i64 t.ty) := HT.out.cell 1
    have c2 : w0.cell? ⟨w.heap.size, 2, none⟩ = some (.string t.ho) := HT.out.cell 2
    have c3 : w0.cell? ⟨w.heap.size, 3, none⟩ = some (.int .u32 t.ge) := HT.out.cell 3
    have c4 : w0.cell? ⟨w.heap.size, 4, none⟩ = some (.bool t.ap) := HT.out.cell 4
    go_wp2_with (fail)
    refine (good_any A c t _ HL.out HM.out).mono ?_; rintro e w1 ⟨rfl, hb⟩
    rw [HG.out]
    have HB1 := Lib.hid (HB.out.trans (hb.mono HB.out.size)); clear hb
    go_wp2_with (fail)
    go_ret2
    exact ⟨rfl, HB1.out⟩
  | true =>
    have hP := goodB_iff.1 hg
    have HP := Lib.hid hP
    have HG := Lib.hid hg
    have HI := Lib.hid (img_append t)
    have HZ := Lib.hid (show (baL (bodyL t)).size ≤ maxLen by rw [baL_size]; exact Nat.le_trans (body_length hP) (by decide))
    clear hg hP
    go_enter Tryd.func11, Tryd.ntmps11
    go_upto_region 1 with (fail)
    change Code.wp _ _ _ _ (w.alloc (.cells (tlC A c t) 27))
    generalize w.alloc (.cells (tlC A c t) 27) = w0 at *
    have c0 : w0.cell? ⟨w.heap.size, 0, none⟩ = some (.slice A t.rs.length c) := HT.out.cell 0
    have c1 : w0.cell? ⟨w.heap.size, 1, none⟩ = some (.int .i64 t.ty) := HT.out.cell 1
    have c2 : w0.cell? ⟨w.heap.size, 2, none⟩ = some (.string t.ho) := HT.out.cell 2
    have c3 : w0.cell? ⟨w.heap.size, 3, none⟩ = some (.int .u32 t.ge) := HT.out.cell 3
    have c4 : w0.cell? ⟨w.heap.size, 4, none⟩ = some (.bool t.ap) := HT.out.cell 4
    go_wp2_with (fail)
    refine (good_any A c t _ HL.out HM.out).mono ?_; rintro e w1 ⟨rfl, hb⟩
    rw [HG.out]
    have HB1 := Lib.hid (HB.out.trans (hb.mono HB.out.size)); have HL1 := Lib.hid (HL.out.below hb); have HT1 := Lib.hid (HT.out.below hb HT.out.lt); have HTb1 := Lib.hid (HTb.out.below hb)
    have c0 : w1.cell? ⟨w.heap.size, 0, none⟩ = some (.slice A t.rs.length c) := HT1.out.cell 0
    have c1 : w1.cell? ⟨w.heap.size, 1, none⟩ = some (.int .i64 t.ty) := HT1.out.cell 1
    have c2 : w1.cell? ⟨w.heap.size, 2, none⟩ = some (.string t.ho) := HT1.out.cell 2
    have c3 : w1.cell? ⟨w.heap.size, 3, none⟩ = some (.int .u32 t.ge) := HT1.out.cell 3
    have c4 : w1.cell? ⟨w.heap.size, 4, none⟩ = some (.bool t.ap) := HT1.out.cell 4
    clear hb
    go_wp2_with (fail)
    refine (write_any A c t _ HL1.out HP.out HU.out).mono ?_; rintro e w2 ⟨rfl, hb⟩
    have HB2 := Lib.hid (HB1.out.trans (hb.mono HB1.out.size)); have HTb2 := Lib.hid (HTb1.out.below hb)
    clear hb c0 c1 c2 c3 c4
    have hcc : ¬ 9223372036854775807 < (baL (bodyL t)).size + (digV (baL (bodyL t))).size := by
      have h1 := body_length HP.out
      rw [← baL_size] at h1
      have h2 := dig_len (baL (bodyL t))
      rw [lst_len] at h2
      omega
    generalize baL (bodyL t) = b at *
    go_wp2_with (fail)
    refine (digest_any b _ HZ.out HTb2.out).mono ?_; rintro e w3 ⟨rfl, hb⟩
    have HB3 := Lib.hid (HB2.out.trans (hb.mono HB2.out.size))
    clear hb
    go_wp2_with (fail)
    go_ret2
    exact ⟨by rw [← HI.out]; rfl, HB3.out⟩
theorem results_tl {fn : Func} {p q : Tmp} (h : fn.results = #[.cell p 27, .tmp q]) (tmps : Array Value) (w : World) (g : Nat) (x0 x1 x2 x3 x4 : Value)
    (hp : tmps.getD p undef = .pointer (some ⟨g, 0, none⟩)) (hg : Blk w g 27 #[x0, x1, x2, x3, x4]) :
    (results fn tmps).run Tryd.prog w = .ok (.tuple #[.agg #[x0, x1, x2, x3, x4], tmps.getD q undef]) w := by
  have hp' : tmps[p]?.getD undef = .pointer (some ⟨g, 0, none⟩) := by simpa using hp
  simp [results, h, hp', asAddr, run_loadVar_row w g 27 27 #[x0, x1, x2, x3, x4] (0, 0) _ hg Tryd.underlying27 rfl size27]
/-- A table's box filled anew. -/
theorem box5 {v : World} {b : Nat} {A' : Option Addr} {c' : Nat} {t' : Tl} (h : Blk v b 27 (tlC A' c' t')) (A : Option Addr) (c : Nat) (t : Tl) : ∀ V, V = (((((v.setCell ⟨b, 0, none⟩ (.slice A t.rs.length c)).setCell ⟨b, 1, none⟩ (.int .i64 t.ty)).setCell ⟨b, 2, none⟩ (.string t.ho)).setCell ⟨b, 3, none⟩ (.int .u32 t.ge)).setCell ⟨b, 4, none⟩ (.bool t.ap)) →
    Blk V b 27 (tlC A c t) ∧ Only (fun k => k = b) v V := by
  rintro V rfl
  have o0 := Only.refl (fun k => k = b) v
  have o1 := o0.setCell (p := ⟨b, 0, none⟩) (.inl rfl) (.slice A t.rs.length c)
  have o2 := o1.setCell (p := ⟨b, 1, none⟩) (.inl rfl) (.int .i64 t.ty)
  have o3 := o2.setCell (p := ⟨b, 2, none⟩) (.inl rfl) (.string t.ho)
  have o4 := o3.setCell (p := ⟨b, 3, none⟩) (.inl rfl) (.int .u32 t.ge)
  have o5 := o4.setCell (p := ⟨b, 4, none⟩) (.inl rfl) (.bool t.ap)
  exact ⟨(((((h.put 0 (.slice A t.rs.length c)).put 1 (.int .i64 t.ty)).put 2 (.string t.ho)).put 3 (.int .u32 t.ge)).put 4 (.bool t.ap)), o5⟩
/-- The table whose image a text is, or none; what Decode says besides. -/
def decT (s : ByteArray) : Tl := if imB s = true then readT (lst s) else tZ
def decC (s : ByteArray) : Int := if imB s = true then 0 else 61
theorem dec_first (w : World) : ∀ v, v = w.alloc (.cells tlZ 27) → Blk v w.heap.size 27 tlZ ∧ Below w.heap.size w v ∧ v.heap.size = w.heap.size + 1 := by
  rintro v rfl
  exact ⟨Blk.new w _ _, (Below.refl w.heap.size w).alloc (Nat.le_refl _) _, by simp⟩
/-- What stands in memory behind a text was read: the result's box, the table's, its row. -/
structure DcI (w0 : World) (T : Nat) (A : Option Addr) (c : Nat) (t : Tl) (w : World) : Prop where
  res : Blk w w0.heap.size 27 tlZ
  tb : Blk w T 27 (tlC A c t)
  own : Own w w0.heap.size A c t.rs
  bel : Below w0.heap.size w0 w
  far : w0.heap.size < T
theorem DcI.below {w0 w v : World} {T : Nat} {A : Option Addr} {c : Nat} {t : Tl} (h : DcI w0 T A c t w) (hb : Below w.heap.size w v) : DcI w0 T A c t v :=
  ⟨h.res.below hb h.res.lt, h.tb.below hb h.tb.lt, h.own.below hb, h.bel.trans (hb.mono h.bel.size), h.far⟩
theorem DcI.done {w0 v : World} {T : Nat} {A : Option Addr} {c : Nat} {t : Tl} (h : DcI w0 T A c t v) : ∀ V, V = (((((v.setCell ⟨w0.heap.size, 0, none⟩ (.slice A t.rs.length c)).setCell ⟨w0.heap.size, 1, none⟩ (.int .i64 t.ty)).setCell ⟨w0.heap.size, 2, none⟩ (.string t.ho)).setCell ⟨w0.heap.size, 3, none⟩ (.int .u32 t.ge)).setCell ⟨w0.heap.size, 4, none⟩ (.bool t.ap)) →
    Blk V w0.heap.size 27 (tlC A c t) ∧ Own V w0.heap.size A c t.rs ∧ Below w0.heap.size w0 V := by
  intro V hV
  obtain ⟨h1, h2⟩ := box5 (A' := none) (c' := 0) (t' := tZ) h.res A c t V hV
  exact ⟨h1, own_took h.own h.res (by decide) h2, h.bel.trans (h2.toBelow h.bel.size (fun k hk => by omega))⟩
theorem DcI.none {w0 v : World} {T : Nat} {A : Option Addr} {c : Nat} {t : Tl} (h : DcI w0 T A c t v) : ∀ V, V = (((((v.setCell ⟨w0.heap.size, 0, none⟩ (.slice none 0 0)).setCell ⟨w0.heap.size, 1, none⟩ (.int .i64 0)).setCell ⟨w0.heap.size, 2, none⟩ (.string ⟨#[]⟩)).setCell ⟨w0.heap.size, 3, none⟩ (.int .u32 0)).setCell ⟨w0.heap.size, 4, none⟩ (.bool false)) →
    Blk V w0.heap.size 27 tlZ ∧ Below w0.heap.size w0 V := by
  intro V hV
  obtain ⟨h1, h2⟩ := box5 (A' := Option.none) (c' := 0) (t' := tZ) h.res Option.none 0 tZ V hV
  exact ⟨h1, h.bel.trans (h2.toBelow h.bel.size (fun k hk => by omega))⟩
end Go.Proofs.YthedonkjnfeajaaDoor
