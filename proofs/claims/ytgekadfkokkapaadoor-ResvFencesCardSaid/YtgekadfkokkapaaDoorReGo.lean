/- Which tables are good, a host's key, what stays: the statement. -/
import Derived.Test.YtgekadfkokkapaaDoorReWk
import Derived.Test.YtgekadfkokkapaaDoorRePw
namespace Go.Proofs.YtgekadfkokkapaaDoor
open Go.RowKit
theorem bx10 {v : World} {pu n : Nat} {A A2 : Option Addr} {c cc : Nat} {t : Tl} (h1 : Blk v pu 27 (tlC A2 cc t)) (h2 : Blk v n 27 (tlC A c t)) : v.cell? ⟨pu, 0, none⟩ = some (.slice A2 t.rs.length cc) ∧ v.cell? ⟨pu, 1, none⟩ = some (.int .i64 t.ty) ∧ v.cell? ⟨pu, 2, none⟩ = some (.string t.ho) ∧ v.cell? ⟨pu, 3, none⟩ = some (.int .u32 t.ge) ∧ v.cell? ⟨pu, 4, none⟩ = some (.bool t.ap) ∧ v.cell? ⟨n, 0, none⟩ = some (.slice A t.rs.length c) ∧ v.cell? ⟨n, 1, none⟩ = some (.int .i64 t.ty) ∧ v.cell? ⟨n, 2, none⟩ = some (.string t.ho) ∧ v.cell? ⟨n, 3, none⟩ = some (.int .u32 t.ge) ∧ v.cell? ⟨n, 4, none⟩ = some (.bool t.ap) :=
  ⟨h1.cell 0, h1.cell 1, h1.cell 2, h1.cell 3, h1.cell 4, h2.cell 0, h2.cell 1, h2.cell 2, h2.cell 3, h2.cell 4⟩
theorem pow_length (t : Tl) (h : t.rs.length ≤ 200) : (powT t).rs.length ≤ 100000 := by
  unfold powT
  split
  · omega
  · exact Nat.zero_le _
/-- What the statement keeps along its calls. -/
structure GdAt (w v : World) (pu : Nat) (A : Option Addr) (c : Nat) (A2 : Option Addr) (cc : Nat) (t : Tl) : Prop where
  u : Blk v pu 27 (tlC A2 cc t)
  b : Blk v w.heap.size 27 (tlC A c t)
  l : Rgs v A t.rs
  o : Rgs v A2 t.rs
  tb : RTab v
  bel : Below w.heap.size w v
theorem GdAt.below {w v v' : World} {pu : Nat} {A : Option Addr} {c : Nat} {A2 : Option Addr} {cc : Nat} {t : Tl} (h : GdAt w v pu A c A2 cc t) (hb : Below v.heap.size v v') : GdAt w v' pu A c A2 cc t :=
  ⟨h.u.below hb h.u.lt, h.b.below hb h.b.lt, h.l.below hb, h.o.below hb, h.tb.below hb, h.bel.trans (hb.mono h.bel.size)⟩
set_option maxRecDepth 100000 in
set_option maxHeartbeats 8000000 in
theorem goods_any (A : Option Addr) (c : Nat) (t : Tl) (h : ByteArray) (w : World) (hl : Rgs w A t.rs) (hm : t.rs.length ≤ maxLen) (ht : RTab w) :
    Calls Tryd.prog 3 #[tlV A c t, .string h] w fun e w' => e = .returned (.bool true) ∧ Below w.heap.size w w' := by
  obtain ⟨h1, h2, h3⟩ := tl_box w A c t _ rfl
  have HT := Lib.hid h1; have HB := Lib.hid h2
  have HL := Lib.hid (hl.below h2); have HTb := Lib.hid (ht.below h2)
  have HM := Lib.hid hm
  have hnt := not_true
  have hnf := not_false
  clear h1 h2 h3 hl hm ht
  go_enter Tryd.func3, Tryd.ntmps3
  go_upto_region 1 with (fail)
  change Code.wp _ _ _ _ (w.alloc (.cells (tlC A c t) 27))
  generalize w.alloc (.cells (tlC A c t) 27) = w0 at *
  have c0 : w0.cell? ⟨w.heap.size, 0, none⟩ = some (.slice A t.rs.length c) := HT.out.cell 0
  have c1 : w0.cell? ⟨w.heap.size, 1, none⟩ = some (.int .i64 t.ty) := HT.out.cell 1
  have c2 : w0.cell? ⟨w.heap.size, 2, none⟩ = some (.string t.ho) := HT.out.cell 2
  have c3 : w0.cell? ⟨w.heap.size, 3, none⟩ = some (.int .u32 t.ge) := HT.out.cell 3
  have c4 : w0.cell? ⟨w.heap.size, 4, none⟩ = some (.bool t.ap) := HT.out.cell 4
  go_wp2_with (fail)
  refine (largeX_any A c t _ HL.out HM.out).mono ?_; rintro e w1 ⟨r, rfl, hr, hb1⟩
  have HB1 := Lib.hid (HB.out.trans (hb1.mono HB.out.size)); have HT1 := Lib.hid (HT.out.below hb1 HT.out.lt); have HL1 := Lib.hid (HL.out.below hb1); have HTb1 := Lib.hid (HTb.out.below hb1)
  have HR := Lib.hid hr
  clear hb1 hr c0 c1 c2 c3 c4
  cases r with
  | true =>
    go_wp2_with (fail)
    refine (wakes_any _ HTb1.out).mono ?_; rintro e w9 ⟨rfl, hb9⟩
    have HB9 := Lib.hid (HB1.out.trans (hb9.mono HB1.out.size)); clear hb9
    go_wp2_with (fail)
    go_ret
    exact ⟨rfl, HB9.out⟩
  | false =>
    have HN := Lib.hid (HR.out rfl)
    clear HR
    by_cases g1 : 1000 < h.size
    · have i1 : (1000 : Int) < h.size := by omega
      clear g1
      go_wp2_with (fail)
      refine (wakes_any _ HTb1.out).mono ?_; rintro e w9 ⟨rfl, hb9⟩
      have HB9 := Lib.hid (HB1.out.trans (hb9.mono HB1.out.size)); clear hb9
      go_wp2_with (fail)
      go_ret
      exact ⟨rfl, HB9.out⟩
    · have i1 : ¬ (1000 : Int) < h.size := by omega
      clear g1
      have c0 : w1.cell? ⟨w.heap.size, 0, none⟩ = some (.slice A t.rs.length c) := HT1.out.cell 0
      have c1 : w1.cell? ⟨w.heap.size, 1, none⟩ = some (.int .i64 t.ty) := HT1.out.cell 1
      have c2 : w1.cell? ⟨w.heap.size, 2, none⟩ = some (.string t.ho) := HT1.out.cell 2
      have c3 : w1.cell? ⟨w.heap.size, 3, none⟩ = some (.int .u32 t.ge) := HT1.out.cell 3
      have c4 : w1.cell? ⟨w.heap.size, 4, none⟩ = some (.bool t.ap) := HT1.out.cell 4
      go_wp2_with (fail)
      refine (copy_any A c t _ HL1.out (Nat.le_trans HN.out.1 (by decide))).mono ?_; rintro e w2 ⟨A2, cc, rfl, ho, hb⟩
      have HB2 := Lib.hid (HB1.out.trans (hb.mono HB1.out.size)); have HT2 := Lib.hid (HT1.out.below hb HT1.out.lt); have HL2 := Lib.hid (HL1.out.below hb); have HTb2 := Lib.hid (HTb1.out.below hb); have HO2 := Lib.hid ho
      clear ho hb c0 c1 c2 c3 c4
      go_upto_region 4 with (fail)
      change Code.wp _ _ _ _ (w2.alloc (.cells (tlC A2 cc t) 27))
      have hal := (Below.refl w2.heap.size w2).alloc (Nat.le_refl _) (.cells (tlC A2 cc t) 27)
      have HU := Lib.hid (Blk.new w2 27 (tlC A2 cc t))
      have HB3 := Lib.hid (HB2.out.trans (hal.mono HB2.out.size)); have HT3 := Lib.hid (HT2.out.below hal HT2.out.lt); have HL3 := Lib.hid (HL2.out.below hal); have HTb3 := Lib.hid (HTb2.out.below hal); have HO3 := Lib.hid (HO2.out.below hal)
      clear hal
      obtain ⟨pu, hpu⟩ : ∃ pu, pu = w2.heap.size := ⟨_, rfl⟩
      rw [← hpu] at HU ⊢
      clear hpu
      generalize w2.alloc (.cells (tlC A2 cc t) 27) = w3 at *
      clear HT HB HL HTb HB1 HT1 HL1 HTb1 HB2 HT2 HL2 HTb2 HO2
      have G0 := Lib.hid (GdAt.mk HU.out HT3.out HL3.out HO3.out.rgs HTb3.out HB3.out)
      have HPL := Lib.hid (pow_length t HN.out.1)
      have HTL := Lib.hid (show t.rs.length ≤ 100000 from Nat.le_trans HN.out.1 (by decide))
      clear HU HT3 HL3 HO3 HTb3 HB3
      have tok1 : True := trivial
      have tok2 : True := trivial
      have tok3 : True := trivial
      have tok4 : True := trivial
      have tok5 : True := trivial
      have tok6 : True := trivial
      have tok7 : True := trivial
      have tok8 : True := trivial
      have tok9 : True := trivial
      go_region_held3 (fun v => v.cell? ⟨pu, 0, none⟩ = some (.slice A2 t.rs.length cc) ∧ v.cell? ⟨pu, 1, none⟩ = some (.int .i64 t.ty) ∧ v.cell? ⟨pu, 2, none⟩ = some (.string t.ho) ∧ v.cell? ⟨pu, 3, none⟩ = some (.int .u32 t.ge) ∧ v.cell? ⟨pu, 4, none⟩ = some (.bool t.ap) ∧ v.cell? ⟨w.heap.size, 0, none⟩ = some (.slice A t.rs.length c) ∧ v.cell? ⟨w.heap.size, 1, none⟩ = some (.int .i64 t.ty) ∧ v.cell? ⟨w.heap.size, 2, none⟩ = some (.string t.ho) ∧ v.cell? ⟨w.heap.size, 3, none⟩ = some (.int .u32 t.ge) ∧ v.cell? ⟨w.heap.size, 4, none⟩ = some (.bool t.ap)) (first | exact bx10 G9.out.u G9.out.b | exact bx10 G8.out.u G8.out.b | exact bx10 G7.out.u G7.out.b | exact bx10 G6.out.u G6.out.b | exact bx10 G5.out.u G5.out.b | exact bx10 G4.out.u G4.out.b | exact bx10 G3.out.u G3.out.b | exact bx10 G2.out.u G2.out.b | exact bx10 G1.out.u G1.out.b | exact bx10 G0.out.u G0.out.b | exact bx10 (G0.out.below (Below.refl _ _).drew).u (G0.out.below (Below.refl _ _).drew).b) (first
        | (have _t := tok1; go_at_call 14; refine (good_any A2 cc t _ (G0.out.below (Below.refl _ _).drew).o HM.out).mono ?_; rintro e v1 ⟨rfl, hb⟩; have G1 := Lib.hid (((G0.out.below (Below.refl _ _).drew)).below hb); clear hb tok1)
        | (have _t := tok2; go_at_call 15; refine (refGood_any A c t _ G1.out.l HM.out).mono ?_; rintro e v2 ⟨rfl, hb⟩; have G2 := Lib.hid ((G1.out).below hb); clear hb tok2)
        | (have _t := tok3; go_at_call 16; refine (key_any A2 cc t h _ G2.out.o HM.out).mono ?_; rintro e v3 ⟨rfl, hb⟩; have G3 := Lib.hid ((G2.out).below hb); clear hb tok3)
        | (have _t := tok4; go_at_call 17; refine (refKey_any A c t h _ G3.out.l HM.out).mono ?_; rintro e v4 ⟨rfl, hb⟩; have G4 := Lib.hid ((G3.out).below hb); clear hb tok4)
        | (have _t := tok5; go_at_call 19; refine (power_any A2 cc t _ G4.out.o HN.out.1 HN.out.2.2 HN.out.2.1).mono ?_; rintro e v5 ⟨P1, q1, rfl, ho1, hb⟩; have G5 := Lib.hid ((G4.out).below hb); have O5 := Lib.hid ho1.rgs; clear ho1; clear hb tok5)
        | (have _t := tok6; go_at_call 20; refine (refPower_any A c t _ G5.out.l HN.out.1 HN.out.2.2 HN.out.2.1).mono ?_; rintro e v6 ⟨P2, q2, rfl, ho2, hb⟩; have G6 := Lib.hid ((G5.out).below hb); have O5b := Lib.hid (O5.out.below hb); have O6 := Lib.hid ho2.rgs; clear ho2; clear hb tok6)
        | (have _t := tok7; go_at_call 18; refine (tables_same P1 P2 q1 q2 (powT t) _ O5b.out O6.out HPL.out).mono ?_; rintro e v7 ⟨rfl, hb⟩; have G7 := Lib.hid ((G6.out).below hb); clear hb tok7)
        | (have _t := tok8; go_at_call 18; refine (tables_same A2 A cc c t _ G7.out.o G7.out.l HTL.out).mono ?_; rintro e v8 ⟨rfl, hb⟩; have G8 := Lib.hid ((G7.out).below hb); clear hb tok8)
        | (have _t := tok9; go_at_call 12; refine (wakes_any _ G8.out.tb).mono ?_; rintro e v9 ⟨rfl, hb⟩; have G9 := Lib.hid ((G8.out).below hb); clear hb tok9))
      go_wp2_with (fail)
      go_ret
      exact ⟨rfl, G9.out.bel⟩
end Go.Proofs.YtgekadfkokkapaaDoor
