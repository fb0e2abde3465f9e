/- Between a reservation and its end a stranger's changes change nothing: the statement. -/
import Derived.Test.YtgekadfkokkapaaDoorReOp
import Derived.Test.YtgekadfkokkapaaDoorReGo
import Derived.Test.YtgekadfkokkapaaDoorReKp
namespace Go.Proofs.YtgekadfkokkapaaDoor
open Go.RowKit
theorem Cms.below {w w' : World} {A : Option Addr} {l : List Cm} (h : Cms w A l) (hb : Below w.heap.size w w') : Cms w' A l := fun hn => by
  obtain ⟨b, o, rfl, hc⟩ := h hn
  refine ⟨b, o, rfl, fun j m hj => ⟨(hc j m hj).1, fun i u hu => ?_⟩⟩
  have hcell := (hc j m hj).2 i u hu
  have hlt := World.block_lt_of_cell? w ⟨b, o + j * 14 + i, none⟩ hcell
  exact (World.cell?_of_block (a := ⟨b, o + j * 14 + i, none⟩) (hb.block b hlt)).trans hcell
/-- The command as the host's own. -/
def fnM (m : Cm) (h : ByteArray) : Cm := { m with ho := h }
/-- What the statement keeps from round to round. -/
structure FnAt (w v : World) (A : Option Addr) (c : Nat) (t : Tl) (pu : Nat) (A2 : Option Addr) (c2 : Nat) : Prop where
  bx : BxAt w v A c t
  u : Blk v pu 27 (tlC A2 c2 t)
  r : Rgs v A2 t.rs
  lt : w.heap.size < pu
theorem FnAt.below {w v v' : World} {A : Option Addr} {c : Nat} {t : Tl} {pu : Nat} {A2 : Option Addr} {c2 : Nat} (h : FnAt w v A c t pu A2 c2) (hb : Below v.heap.size v v') : FnAt w v' A c t pu A2 c2 :=
  ⟨h.bx.below hb, h.u.below hb h.u.lt, h.r.below hb, h.lt⟩
theorem bxAgain {w v v' : World} {A : Option Addr} {c : Nat} {t : Tl} {n : Nat} (h : BxAt w v A c t) (hl : Rgs w A t.rs) (ht : RTab w) (hb : Below n v v') (hn : w.heap.size < n) : BxAt w v' A c t := by
  have hbb : Below w.heap.size w v' := h.bel.trans (hb.mono (Nat.le_of_lt hn))
  exact ⟨h.b.below hb hn, hl.below hbb, ht.below hbb, hbb⟩
theorem FnAt.put {w v : World} {A : Option Addr} {c : Nat} {t : Tl} {pu : Nat} {A2 : Option Addr} {c2 : Nat} (h : FnAt w v A c t pu A2 c2) (hl : Rgs w A t.rs) (ht : RTab w) {A6 : Option Addr} {c6 : Nat} {n : Nat} (ho : Own v n A6 c6 t.rs) (hn : pu < n) :
    ∀ V, V = (((((v.setCell ⟨pu, 0, none⟩ (.slice A6 t.rs.length c6)).setCell ⟨pu, 1, none⟩ (.int .i64 t.ty)).setCell ⟨pu, 2, none⟩ (.string t.ho)).setCell ⟨pu, 3, none⟩ (.int .u32 t.ge)).setCell ⟨pu, 4, none⟩ (.bool t.ap)) → FnAt w V A c t pu A6 c6 := by
  rintro V rfl
  have hO : Only (fun k => k = pu) v _ := ((((((Only.refl (fun k => k = pu) v).setCell (p := ⟨pu, 0, none⟩) (.inl rfl) (.slice A6 t.rs.length c6)).setCell (p := ⟨pu, 1, none⟩) (.inl rfl) (.int .i64 t.ty)).setCell (p := ⟨pu, 2, none⟩) (.inl rfl) (.string t.ho)).setCell (p := ⟨pu, 3, none⟩) (.inl rfl) (.int .u32 t.ge)).setCell (p := ⟨pu, 4, none⟩) (.inl rfl) (.bool t.ap))
  have hB := hO.toBelow (B := pu) (Nat.le_of_lt h.u.lt) (fun k hk => by rw [hk]; exact Nat.le_refl _)
  have hOw : Own _ n A6 c6 t.rs := ⟨own_keep ho.1 fun g hg => hO.block g (ho.1.lt g hg).2 (fun e => by have := (ho.1.lt g hg).1; omega), ho.2⟩
  exact ⟨bxAgain h.bx hl ht hB h.lt, (((((h.u.put 0 _).put 1 _).put 2 _).put 3 _).put 4 _), hOw.rgs, h.lt⟩
set_option maxRecDepth 100000 in
set_option maxHeartbeats 16000000 in
theorem fences_any (A : Option Addr) (c : Nat) (t : Tl) (h : ByteArray) (AL : Option Addr) (cL : Nat) (l : List Cm) (w : World) (hl : Rgs w A t.rs) (hm : t.rs.length ≤ maxLen) (hsz : h.size ≤ maxLen) (hcm : Cms w AL l) (ht : RTab w) :
    Calls Tryd.prog 7 #[tlV A c t, .string h, .slice AL l.length cL] w fun e w' => e = .returned (.bool true) ∧ Below w.heap.size w w' := by
  have HNA := Lib.hid (fun v => refName_any h v hsz)
  have HCMS := Lib.hid hcm; have HL0 := Lib.hid hl; have HT0 := Lib.hid ht
  clear hsz hcm
  have G0 := Lib.hid (BxAt.from w A c t hl ht)
  have HM := Lib.hid hm
  have hnt := not_true
  have hnf := not_false
  clear hl hm ht
  go_enter Tryd.func7, Tryd.ntmps7
  go_upto_region 1 with (fail)
  change Code.wp _ _ _ _ (w.alloc (.cells (tlC A c t) 27))
  generalize w.alloc (.cells (tlC A c t) 27) = v0 at *
  have c0 : v0.cell? ⟨w.heap.size, 0, none⟩ = some (.slice A t.rs.length c) := G0.out.b.cell 0
  have c1 : v0.cell? ⟨w.heap.size, 1, none⟩ = some (.int .i64 t.ty) := G0.out.b.cell 1
  have c2 : v0.cell? ⟨w.heap.size, 2, none⟩ = some (.string t.ho) := G0.out.b.cell 2
  have c3 : v0.cell? ⟨w.heap.size, 3, none⟩ = some (.int .u32 t.ge) := G0.out.b.cell 3
  have c4 : v0.cell? ⟨w.heap.size, 4, none⟩ = some (.bool t.ap) := G0.out.b.cell 4
  go_wp2_with (fail)
  refine (largeX_any A c t _ G0.out.l HM.out).mono ?_; rintro e v1 ⟨r, rfl, hr, hb⟩
  have G1 := Lib.hid (G0.out.below hb)
  have HR := Lib.hid hr; clear hr
  clear hb c0 c1 c2 c3 c4
  cases r with
  | true =>
    have c0 : v1.cell? ⟨w.heap.size, 0, none⟩ = some (.slice A t.rs.length c) := G1.out.b.cell 0
    have c1 : v1.cell? ⟨w.heap.size, 1, none⟩ = some (.int .i64 t.ty) := G1.out.b.cell 1
    have c2 : v1.cell? ⟨w.heap.size, 2, none⟩ = some (.string t.ho) := G1.out.b.cell 2
    have c3 : v1.cell? ⟨w.heap.size, 3, none⟩ = some (.int .u32 t.ge) := G1.out.b.cell 3
    have c4 : v1.cell? ⟨w.heap.size, 4, none⟩ = some (.bool t.ap) := G1.out.b.cell 4
    go_wp2_with (fail)
    refine (wakes_any _ G1.out.tb).mono ?_; rintro e v2 ⟨rfl, hb⟩
    have G2 := Lib.hid (G1.out.below hb)
    clear hb c0 c1 c2 c3 c4
    go_wp2_with (fail)
    go_ret
    exact ⟨rfl, G2.out.bel⟩
  | false =>
    have HN := Lib.hid (HR.out rfl)
    have HG := Lib.hid (fun v (hl2 : Rgs v A t.rs) => refGood_any A c t v hl2 HM.out)
    have HK := Lib.hid (fun v (hl2 : Rgs v A t.rs) => refKey_any A c t h v hl2 HM.out)
    clear HR
    cases hg : goodB t with
    | false =>
      rw [hg] at HG
      clear hg
      have c0 : v1.cell? ⟨w.heap.size, 0, none⟩ = some (.slice A t.rs.length c) := G1.out.b.cell 0
      have c1 : v1.cell? ⟨w.heap.size, 1, none⟩ = some (.int .i64 t.ty) := G1.out.b.cell 1
      have c2 : v1.cell? ⟨w.heap.size, 2, none⟩ = some (.string t.ho) := G1.out.b.cell 2
      have c3 : v1.cell? ⟨w.heap.size, 3, none⟩ = some (.int .u32 t.ge) := G1.out.b.cell 3
      have c4 : v1.cell? ⟨w.heap.size, 4, none⟩ = some (.bool t.ap) := G1.out.b.cell 4
      go_wp2_with (fail)
      refine (HG.out _ G1.out.l).mono ?_; rintro e v2 ⟨rfl, hb⟩
      have G2 := Lib.hid (G1.out.below hb)
      clear hb c0 c1 c2 c3 c4
      have c0 : v2.cell? ⟨w.heap.size, 0, none⟩ = some (.slice A t.rs.length c) := G2.out.b.cell 0
      have c1 : v2.cell? ⟨w.heap.size, 1, none⟩ = some (.int .i64 t.ty) := G2.out.b.cell 1
      have c2 : v2.cell? ⟨w.heap.size, 2, none⟩ = some (.string t.ho) := G2.out.b.cell 2
      have c3 : v2.cell? ⟨w.heap.size, 3, none⟩ = some (.int .u32 t.ge) := G2.out.b.cell 3
      have c4 : v2.cell? ⟨w.heap.size, 4, none⟩ = some (.bool t.ap) := G2.out.b.cell 4
      go_wp2_with (fail)
      refine (wakes_any _ G2.out.tb).mono ?_; rintro e v3 ⟨rfl, hb⟩
      have G3 := Lib.hid (G2.out.below hb)
      clear hb c0 c1 c2 c3 c4
      go_wp2_with (fail)
      go_ret
      exact ⟨rfl, G3.out.bel⟩
    | true =>
      rw [hg] at HG
      have HGP := Lib.hid (goodB_iff.1 hg)
      clear hg
      cases hna : nameB h with
      | false =>
        rw [hna] at HNA
        clear hna
        have c0 : v1.cell? ⟨w.heap.size, 0, none⟩ = some (.slice A t.rs.length c) := G1.out.b.cell 0
        have c1 : v1.cell? ⟨w.heap.size, 1, none⟩ = some (.int .i64 t.ty) := G1.out.b.cell 1
        have c2 : v1.cell? ⟨w.heap.size, 2, none⟩ = some (.string t.ho) := G1.out.b.cell 2
        have c3 : v1.cell? ⟨w.heap.size, 3, none⟩ = some (.int .u32 t.ge) := G1.out.b.cell 3
        have c4 : v1.cell? ⟨w.heap.size, 4, none⟩ = some (.bool t.ap) := G1.out.b.cell 4
        go_wp2_with (fail)
        refine (HG.out _ G1.out.l).mono ?_; rintro e v2 ⟨rfl, hb⟩
        have G2 := Lib.hid (G1.out.below hb)
        clear hb c0 c1 c2 c3 c4
        go_wp2_with (fail)
        refine (HNA.out _).mono ?_; rintro e v2' ⟨rfl, rfl⟩
        have c0 : v2.cell? ⟨w.heap.size, 0, none⟩ = some (.slice A t.rs.length c) := G2.out.b.cell 0
        have c1 : v2.cell? ⟨w.heap.size, 1, none⟩ = some (.int .i64 t.ty) := G2.out.b.cell 1
        have c2 : v2.cell? ⟨w.heap.size, 2, none⟩ = some (.string t.ho) := G2.out.b.cell 2
        have c3 : v2.cell? ⟨w.heap.size, 3, none⟩ = some (.int .u32 t.ge) := G2.out.b.cell 3
        have c4 : v2.cell? ⟨w.heap.size, 4, none⟩ = some (.bool t.ap) := G2.out.b.cell 4
        go_wp2_with (fail)
        refine (wakes_any _ G2.out.tb).mono ?_; rintro e v3 ⟨rfl, hb⟩
        have G3 := Lib.hid (G2.out.below hb)
        clear hb c0 c1 c2 c3 c4
        go_wp2_with (fail)
        go_ret
        exact ⟨rfl, G3.out.bel⟩
      | true =>
        rw [hna] at HNA
        have HSZ := Lib.hid (show h.size ≤ 1000 from Nat.le_trans (name_size hna).2 (by decide))
        clear hna
        cases hk : (keyR t.rs h == 0) with
        | false =>
          have hk' : (keyR t.rs h != 0) = true := by simp [bne, hk]
          have c0 : v1.cell? ⟨w.heap.size, 0, none⟩ = some (.slice A t.rs.length c) := G1.out.b.cell 0
          have c1 : v1.cell? ⟨w.heap.size, 1, none⟩ = some (.int .i64 t.ty) := G1.out.b.cell 1
          have c2 : v1.cell? ⟨w.heap.size, 2, none⟩ = some (.string t.ho) := G1.out.b.cell 2
          have c3 : v1.cell? ⟨w.heap.size, 3, none⟩ = some (.int .u32 t.ge) := G1.out.b.cell 3
          have c4 : v1.cell? ⟨w.heap.size, 4, none⟩ = some (.bool t.ap) := G1.out.b.cell 4
          go_wp2_with (fail)
          refine (HG.out _ G1.out.l).mono ?_; rintro e v2 ⟨rfl, hb⟩
          have G2 := Lib.hid (G1.out.below hb)
          clear hb c0 c1 c2 c3 c4
          go_wp2_with (fail)
          refine (HNA.out _).mono ?_; rintro e v2' ⟨rfl, rfl⟩
          have c0 : v2.cell? ⟨w.heap.size, 0, none⟩ = some (.slice A t.rs.length c) := G2.out.b.cell 0
          have c1 : v2.cell? ⟨w.heap.size, 1, none⟩ = some (.int .i64 t.ty) := G2.out.b.cell 1
          have c2 : v2.cell? ⟨w.heap.size, 2, none⟩ = some (.string t.ho) := G2.out.b.cell 2
          have c3 : v2.cell? ⟨w.heap.size, 3, none⟩ = some (.int .u32 t.ge) := G2.out.b.cell 3
          have c4 : v2.cell? ⟨w.heap.size, 4, none⟩ = some (.bool t.ap) := G2.out.b.cell 4
          go_wp2_with (fail)
          refine (HK.out _ G2.out.l).mono ?_; rintro e v3 ⟨rfl, hb⟩
          have G3 := Lib.hid (G2.out.below hb)
          clear hb c0 c1 c2 c3 c4
          have c0 : v3.cell? ⟨w.heap.size, 0, none⟩ = some (.slice A t.rs.length c) := G3.out.b.cell 0
          have c1 : v3.cell? ⟨w.heap.size, 1, none⟩ = some (.int .i64 t.ty) := G3.out.b.cell 1
          have c2 : v3.cell? ⟨w.heap.size, 2, none⟩ = some (.string t.ho) := G3.out.b.cell 2
          have c3 : v3.cell? ⟨w.heap.size, 3, none⟩ = some (.int .u32 t.ge) := G3.out.b.cell 3
          have c4 : v3.cell? ⟨w.heap.size, 4, none⟩ = some (.bool t.ap) := G3.out.b.cell 4
          go_wp2_with (fail)
          refine (wakes_any _ G3.out.tb).mono ?_; rintro e v4 ⟨rfl, hb⟩
          have G4 := Lib.hid (G3.out.below hb)
          clear hb c0 c1 c2 c3 c4
          go_wp2_with (fail)
          go_ret
          exact ⟨rfl, G4.out.bel⟩
        | true =>
          have hk' : (keyR t.rs h != 0) = false := by simp [bne, hk]
          have HKZ := Lib.hid (eqB hk)
          clear hk
          have c0 : v1.cell? ⟨w.heap.size, 0, none⟩ = some (.slice A t.rs.length c) := G1.out.b.cell 0
          have c1 : v1.cell? ⟨w.heap.size, 1, none⟩ = some (.int .i64 t.ty) := G1.out.b.cell 1
          have c2 : v1.cell? ⟨w.heap.size, 2, none⟩ = some (.string t.ho) := G1.out.b.cell 2
          have c3 : v1.cell? ⟨w.heap.size, 3, none⟩ = some (.int .u32 t.ge) := G1.out.b.cell 3
          have c4 : v1.cell? ⟨w.heap.size, 4, none⟩ = some (.bool t.ap) := G1.out.b.cell 4
          go_wp2_with (fail)
          refine (HG.out _ G1.out.l).mono ?_; rintro e v2 ⟨rfl, hb⟩
          have G2 := Lib.hid (G1.out.below hb)
          clear hb c0 c1 c2 c3 c4
          go_wp2_with (fail)
          refine (HNA.out _).mono ?_; rintro e v2' ⟨rfl, rfl⟩
          have c0 : v2.cell? ⟨w.heap.size, 0, none⟩ = some (.slice A t.rs.length c) := G2.out.b.cell 0
          have c1 : v2.cell? ⟨w.heap.size, 1, none⟩ = some (.int .i64 t.ty) := G2.out.b.cell 1
          have c2 : v2.cell? ⟨w.heap.size, 2, none⟩ = some (.string t.ho) := G2.out.b.cell 2
          have c3 : v2.cell? ⟨w.heap.size, 3, none⟩ = some (.int .u32 t.ge) := G2.out.b.cell 3
          have c4 : v2.cell? ⟨w.heap.size, 4, none⟩ = some (.bool t.ap) := G2.out.b.cell 4
          go_wp2_with (fail)
          refine (HK.out _ G2.out.l).mono ?_; rintro e v3 ⟨rfl, hb⟩
          have G3 := Lib.hid (G2.out.below hb)
          clear hb c0 c1 c2 c3 c4
          have c0 : v3.cell? ⟨w.heap.size, 0, none⟩ = some (.slice A t.rs.length c) := G3.out.b.cell 0
          have c1 : v3.cell? ⟨w.heap.size, 1, none⟩ = some (.int .i64 t.ty) := G3.out.b.cell 1
          have c2 : v3.cell? ⟨w.heap.size, 2, none⟩ = some (.string t.ho) := G3.out.b.cell 2
          have c3 : v3.cell? ⟨w.heap.size, 3, none⟩ = some (.int .u32 t.ge) := G3.out.b.cell 3
          have c4 : v3.cell? ⟨w.heap.size, 4, none⟩ = some (.bool t.ap) := G3.out.b.cell 4
          go_wp2_with (fail)
          refine (copy_any A c t v3 G3.out.l (Nat.le_trans HN.out.1 (by decide))).mono ?_; rintro e v4 ⟨A2, c2', rfl, ho5, hb⟩
          have G4 := Lib.hid (G3.out.below hb); have HR4 := Lib.hid ho5.rgs
          clear hb ho5 c0 c1 c2 c3 c4 hk'
          go_upto_region 4 with (fail)
          change Code.wp _ _ _ _ (v4.alloc (.cells (tlC A2 c2' t) 27))
          have hal := (Below.refl v4.heap.size v4).alloc (Nat.le_refl _) (.cells (tlC A2 c2' t) 27)
          have F0 := Lib.hid (FnAt.mk (G4.out.below hal) (Blk.new v4 27 (tlC A2 c2' t)) (HR4.out.below hal) G4.out.b.lt)
          obtain ⟨pu, hpu⟩ : ∃ pu, pu = v4.heap.size := ⟨_, rfl⟩
          rw [← hpu] at F0 ⊢
          clear hal hpu HR4
          generalize v4.alloc (.cells (tlC A2 c2' t) 27) = v5 at *
          go_wp2_with (fail)
          go_loopw [8] (fun i wr => ∃ (k : Nat) (A' : Option Addr) (c' : Nat), k ≤ 30 ∧ k ≤ l.length ∧ i = .int .i64 k ∧ Hid (FnAt w wr A c t pu A' c')) (fun i _ => l.length - (intOf i).toNat)
          case atStart => exact ⟨0, A2, c2', Nat.zero_le _, Nat.zero_le _, rfl, F0⟩
          case round =>
            obtain ⟨k, A', c', hk30, hkl, rfl, HF⟩ := hrel
            by_cases hlt : k < l.length
            · have hkl1 : (k : Int) < l.length := by omega
              by_cases h30 : k < 30
              · have h30i : (k : Int) < 30 := by omega
                obtain ⟨b, o, rfl, hcs⟩ := (HCMS.out.below HF.out.bx.bel) (by omega)
                obtain ⟨m, hmk⟩ : ∃ m, l[k]? = some m := ⟨_, List.getElem?_eq_getElem hlt⟩
                obtain ⟨_, hcell⟩ := hcs k m hmk
                have m0 : wr.cell? ⟨b, o + k * 14, none⟩ = some (.int .i64 m.op) := hcell 0 _ rfl
                have m1 : wr.cell? ⟨b, o + k * 14 + 1, none⟩ = some (.int .i64 m.lu) := hcell 1 _ rfl
                have m2 : wr.cell? ⟨b, o + k * 14 + 2, none⟩ = some (.string m.ho) := hcell 2 _ rfl
                have m3 : wr.cell? ⟨b, o + k * 14 + 3, none⟩ = some (.int .i64 m.lb) := hcell 3 _ rfl
                have m4 : wr.cell? ⟨b, o + k * 14 + 4, none⟩ = some (.int .i64 m.bl) := hcell 4 _ rfl
                have m5 : wr.cell? ⟨b, o + k * 14 + 5, none⟩ = some (.string m.da) := hcell 5 _ rfl
                have m6 : wr.cell? ⟨b, o + k * 14 + 6, none⟩ = some (.bool m.fu) := hcell 6 _ rfl
                have m7 : wr.cell? ⟨b, o + k * 14 + 7, none⟩ = some (.slice m.rA m.rn m.rc) := hcell 7 _ rfl
                have m8 : wr.cell? ⟨b, o + k * 14 + 8, none⟩ = some (.int .u64 m.ke) := hcell 8 _ rfl
                have m9 : wr.cell? ⟨b, o + k * 14 + 9, none⟩ = some (.int .u64 m.nk) := hcell 9 _ rfl
                have m10 : wr.cell? ⟨b, o + k * 14 + 10, none⟩ = some (.int .u64 m.ot) := hcell 10 _ rfl
                have m11 : wr.cell? ⟨b, o + k * 14 + 11, none⟩ = some (.int .i64 m.ty) := hcell 11 _ rfl
                have m12 : wr.cell? ⟨b, o + k * 14 + 12, none⟩ = some (.bool m.ig) := hcell 12 _ rfl
                have m13 : wr.cell? ⟨b, o + k * 14 + 13, none⟩ = some (.int .i64 m.ap) := hcell 13 _ rfl
                clear hcell hcs
                go_upto_region 9 with (fail)
                change Code.wp _ _ _ _ (wr.alloc (.cells (cmC (fnM m h)) 37))
                have hal := (Below.refl wr.heap.size wr).alloc (Nat.le_refl _) (.cells (cmC (fnM m h)) 37)
                have HC := Lib.hid (Blk.new wr 37 (cmC (fnM m h))); have F1 := Lib.hid (HF.out.below hal)
                have HPW := Lib.hid (show pu < (wr.alloc (.cells (cmC (fnM m h)) 37)).heap.size from Nat.lt_of_lt_of_le HF.out.u.lt hal.size)
                obtain ⟨pc, hpc⟩ : ∃ pc, pc = wr.heap.size := ⟨_, rfl⟩
                rw [← hpc] at HC ⊢
                clear hal hpc m0 m1 m2 m3 m4 m5 m6 m7 m8 m9 m10 m11 m12 m13
                generalize wr.alloc (.cells (cmC (fnM m h)) 37) = v6 at *
                have q0 : v6.cell? ⟨pc, 0, none⟩ = some (.int .i64 m.op) := HC.out.cell 0
                cases h8 : (m.op == 8) with
                | true =>
                  go_wp2_with (fail)
                  go_roundw
                  case rel => exact ⟨k + 1, A', c', by omega, by omega, by go_num, F1⟩
                  case measure => simp [intOf]; omega
                | false =>
                  have hne : doC t (fnM m h) ≠ 1 := do_fence HKZ.out (neB h8)
                  obtain ⟨cd, hcd, hcd1⟩ : ∃ cd, doC t (fnM m h) = cd ∧ (cd == 1) = false := ⟨_, rfl, by rw [int_beq]; exact decide_eq_false hne⟩
                  have HD1 := Lib.hid (do_not hne); have HD2 := Lib.hid hcd
                  clear hne hcd
                  have p0 : v6.cell? ⟨pc, 0, none⟩ = some (.int .i64 m.op) := HC.out.cell 0
                  have p1 : v6.cell? ⟨pc, 1, none⟩ = some (.int .i64 m.lu) := HC.out.cell 1
                  have p2 : v6.cell? ⟨pc, 2, none⟩ = some (.string h) := HC.out.cell 2
                  have p3 : v6.cell? ⟨pc, 3, none⟩ = some (.int .i64 m.lb) := HC.out.cell 3
                  have p4 : v6.cell? ⟨pc, 4, none⟩ = some (.int .i64 m.bl) := HC.out.cell 4
                  have p5 : v6.cell? ⟨pc, 5, none⟩ = some (.string m.da) := HC.out.cell 5
                  have p6 : v6.cell? ⟨pc, 6, none⟩ = some (.bool m.fu) := HC.out.cell 6
                  have p7 : v6.cell? ⟨pc, 7, none⟩ = some (.slice m.rA m.rn m.rc) := HC.out.cell 7
                  have p8 : v6.cell? ⟨pc, 8, none⟩ = some (.int .u64 m.ke) := HC.out.cell 8
                  have p9 : v6.cell? ⟨pc, 9, none⟩ = some (.int .u64 m.nk) := HC.out.cell 9
                  have p10 : v6.cell? ⟨pc, 10, none⟩ = some (.int .u64 m.ot) := HC.out.cell 10
                  have p11 : v6.cell? ⟨pc, 11, none⟩ = some (.int .i64 m.ty) := HC.out.cell 11
                  have p12 : v6.cell? ⟨pc, 12, none⟩ = some (.bool m.ig) := HC.out.cell 12
                  have p13 : v6.cell? ⟨pc, 13, none⟩ = some (.int .i64 m.ap) := HC.out.cell 13
                  have u0 : v6.cell? ⟨pu, 0, none⟩ = some (.slice A' t.rs.length c') := F1.out.u.cell 0
                  have u1 : v6.cell? ⟨pu, 1, none⟩ = some (.int .i64 t.ty) := F1.out.u.cell 1
                  have u2 : v6.cell? ⟨pu, 2, none⟩ = some (.string t.ho) := F1.out.u.cell 2
                  have u3 : v6.cell? ⟨pu, 3, none⟩ = some (.int .u32 t.ge) := F1.out.u.cell 3
                  have u4 : v6.cell? ⟨pu, 4, none⟩ = some (.bool t.ap) := F1.out.u.cell 4
                  go_wp2_with (fail)
                  refine (do_as (m := fnM m h) F1.out.r HN.out HSZ.out F1.out.bx.tb HD1.out.1 HD1.out.2 HD2.out).mono ?_; rintro e v7 ⟨A6, c6, B6, e6, rfl, ho, he, hb⟩
                  have F2 := Lib.hid (F1.out.below hb); have HO2 := Lib.hid ho
                  clear ho he hb q0 u0 u1 u2 u3 u4 p0 p1 p2 p3 p4 p5 p6 p7 p8 p9 p10 p11 p12 p13
                  go_upto_region 11 with (fail)
                  change Code.wp _ _ _ _ (v7.alloc (.cells (tlC A6 c6 t) 27))
                  have hal := (Below.refl v7.heap.size v7).alloc (Nat.le_refl _) (.cells (tlC A6 c6 t) 27)
                  have HX := Lib.hid (Blk.new v7 27 (tlC A6 c6 t)); have F3 := Lib.hid (F2.out.below hal); have HO3 := Lib.hid (HO2.out.below hal)
                  obtain ⟨px, hpx⟩ : ∃ px, px = v7.heap.size := ⟨_, rfl⟩
                  rw [← hpx] at HX ⊢
                  clear hal hpx
                  generalize v7.alloc (.cells (tlC A6 c6 t) 27) = v8 at *
                  have x0 : v8.cell? ⟨px, 0, none⟩ = some (.slice A6 t.rs.length c6) := HX.out.cell 0
                  have x1 : v8.cell? ⟨px, 1, none⟩ = some (.int .i64 t.ty) := HX.out.cell 1
                  have x2 : v8.cell? ⟨px, 2, none⟩ = some (.string t.ho) := HX.out.cell 2
                  have x3 : v8.cell? ⟨px, 3, none⟩ = some (.int .u32 t.ge) := HX.out.cell 3
                  have x4 : v8.cell? ⟨px, 4, none⟩ = some (.bool t.ap) := HX.out.cell 4
                  have c0 : v8.cell? ⟨w.heap.size, 0, none⟩ = some (.slice A t.rs.length c) := F3.out.bx.b.cell 0
                  have c1 : v8.cell? ⟨w.heap.size, 1, none⟩ = some (.int .i64 t.ty) := F3.out.bx.b.cell 1
                  have c2 : v8.cell? ⟨w.heap.size, 2, none⟩ = some (.string t.ho) := F3.out.bx.b.cell 2
                  have c3 : v8.cell? ⟨w.heap.size, 3, none⟩ = some (.int .u32 t.ge) := F3.out.bx.b.cell 3
                  have c4 : v8.cell? ⟨w.heap.size, 4, none⟩ = some (.bool t.ap) := F3.out.bx.b.cell 4
                  go_wp2_with (fail)
                  refine (tables_same A6 A c6 c t v8 HO3.out.rgs F3.out.bx.l (Nat.le_trans HN.out.1 (by decide))).mono ?_; rintro e v9 ⟨rfl, hb⟩
                  have F4 := Lib.hid (F3.out.below hb); have HX4 := Lib.hid (HX.out.below hb HX.out.lt); have HO4 := Lib.hid (HO3.out.below hb)
                  clear hb x0 x1 x2 x3 x4 c0 c1 c2 c3 c4 hcd1
                  have x0 : v9.cell? ⟨px, 0, none⟩ = some (.slice A6 t.rs.length c6) := HX4.out.cell 0
                  have x1 : v9.cell? ⟨px, 1, none⟩ = some (.int .i64 t.ty) := HX4.out.cell 1
                  have x2 : v9.cell? ⟨px, 2, none⟩ = some (.string t.ho) := HX4.out.cell 2
                  have x3 : v9.cell? ⟨px, 3, none⟩ = some (.int .u32 t.ge) := HX4.out.cell 3
                  have x4 : v9.cell? ⟨px, 4, none⟩ = some (.bool t.ap) := HX4.out.cell 4
                  have u0 : v9.cell? ⟨pu, 0, none⟩ = some (.slice A' t.rs.length c') := F4.out.u.cell 0
                  have u1 : v9.cell? ⟨pu, 1, none⟩ = some (.int .i64 t.ty) := F4.out.u.cell 1
                  have u2 : v9.cell? ⟨pu, 2, none⟩ = some (.string t.ho) := F4.out.u.cell 2
                  have u3 : v9.cell? ⟨pu, 3, none⟩ = some (.int .u32 t.ge) := F4.out.u.cell 3
                  have u4 : v9.cell? ⟨pu, 4, none⟩ = some (.bool t.ap) := F4.out.u.cell 4
                  have q0 : v9.frozen? ⟨pu, 0, none⟩ = false := F4.out.u.free 0
                  have q1 : v9.frozen? ⟨pu, 1, none⟩ = false := F4.out.u.free 1
                  have q2 : v9.frozen? ⟨pu, 2, none⟩ = false := F4.out.u.free 2
                  have q3 : v9.frozen? ⟨pu, 3, none⟩ = false := F4.out.u.free 3
                  have q4 : v9.frozen? ⟨pu, 4, none⟩ = false := F4.out.u.free 4
                  go_wp2_with (fail)
                  have FP := Lib.hid (FnAt.put F4.out HL0.out HT0.out HO4.out HPW.out _ rfl)
                  go_roundw
                  case rel => exact ⟨k + 1, A6, c6, by omega, by omega, by go_num, FP⟩
                  case measure => simp [intOf]; omega
              · have h30i : ¬ (k : Int) < 30 := by omega
                go_upto_region 14 with (fail)
                have tok1 : True := trivial
                have tok2 : True := trivial
                have tok3 : True := trivial
                go_region_held3 (fun v => v.cell? ⟨pu, 0, none⟩ = some (.slice A' t.rs.length c') ∧ v.cell? ⟨pu, 1, none⟩ = some (.int .i64 t.ty) ∧ v.cell? ⟨pu, 2, none⟩ = some (.string t.ho) ∧ v.cell? ⟨pu, 3, none⟩ = some (.int .u32 t.ge) ∧ v.cell? ⟨pu, 4, none⟩ = some (.bool t.ap) ∧ v.cell? ⟨w.heap.size, 0, none⟩ = some (.slice A t.rs.length c) ∧ v.cell? ⟨w.heap.size, 1, none⟩ = some (.int .i64 t.ty) ∧ v.cell? ⟨w.heap.size, 2, none⟩ = some (.string t.ho) ∧ v.cell? ⟨w.heap.size, 3, none⟩ = some (.int .u32 t.ge) ∧ v.cell? ⟨w.heap.size, 4, none⟩ = some (.bool t.ap)) (first | exact bx10 E3.out.u E3.out.bx.b | exact bx10 E2.out.u E2.out.bx.b | exact bx10 E1.out.u E1.out.bx.b | exact bx10 (HF.out.below (Below.refl _ _).drew).u (HF.out.below (Below.refl _ _).drew).bx.b | exact bx10 HF.out.u HF.out.bx.b) (first
                  | (have _t := tok1; go_at_call 26; refine (may_any A' c' t h 3 _ (HF.out.below (Below.refl _ _).drew).r HM.out (HF.out.below (Below.refl _ _).drew).bx.tb).mono ?_; rintro e x1 ⟨rfl, hb⟩; have E1 := Lib.hid (((HF.out.below (Below.refl _ _).drew)).below hb); clear hb tok1)
                  | (have _t := tok2; go_at_call 26; refine (may_any A c t h 3 _ E1.out.bx.l HM.out E1.out.bx.tb).mono ?_; rintro e x2 ⟨rfl, hb⟩; have E2 := Lib.hid ((E1.out).below hb); clear hb tok2)
                  | (have _t := tok3; go_at_call 12; refine (wakes_any _ E2.out.bx.tb).mono ?_; rintro e x3 ⟨rfl, hb⟩; have E3 := Lib.hid ((E2.out).below hb); clear hb tok3))
                all_goals (
                  go_wp2_with (fail)
                  go_ret
                  exact ⟨rfl, E3.out.bx.bel⟩)
            · obtain rfl : k = l.length := by omega
              go_upto_region 14 with (fail)
              have tok1 : True := trivial
              have tok2 : True := trivial
              have tok3 : True := trivial
              go_region_held3 (fun v => v.cell? ⟨pu, 0, none⟩ = some (.slice A' t.rs.length c') ∧ v.cell? ⟨pu, 1, none⟩ = some (.int .i64 t.ty) ∧ v.cell? ⟨pu, 2, none⟩ = some (.string t.ho) ∧ v.cell? ⟨pu, 3, none⟩ = some (.int .u32 t.ge) ∧ v.cell? ⟨pu, 4, none⟩ = some (.bool t.ap) ∧ v.cell? ⟨w.heap.size, 0, none⟩ = some (.slice A t.rs.length c) ∧ v.cell? ⟨w.heap.size, 1, none⟩ = some (.int .i64 t.ty) ∧ v.cell? ⟨w.heap.size, 2, none⟩ = some (.string t.ho) ∧ v.cell? ⟨w.heap.size, 3, none⟩ = some (.int .u32 t.ge) ∧ v.cell? ⟨w.heap.size, 4, none⟩ = some (.bool t.ap)) (first | exact bx10 E3.out.u E3.out.bx.b | exact bx10 E2.out.u E2.out.bx.b | exact bx10 E1.out.u E1.out.bx.b | exact bx10 (HF.out.below (Below.refl _ _).drew).u (HF.out.below (Below.refl _ _).drew).bx.b | exact bx10 HF.out.u HF.out.bx.b) (first
                | (have _t := tok1; go_at_call 26; refine (may_any A' c' t h 3 _ (HF.out.below (Below.refl _ _).drew).r HM.out (HF.out.below (Below.refl _ _).drew).bx.tb).mono ?_; rintro e x1 ⟨rfl, hb⟩; have E1 := Lib.hid (((HF.out.below (Below.refl _ _).drew)).below hb); clear hb tok1)
                | (have _t := tok2; go_at_call 26; refine (may_any A c t h 3 _ E1.out.bx.l HM.out E1.out.bx.tb).mono ?_; rintro e x2 ⟨rfl, hb⟩; have E2 := Lib.hid ((E1.out).below hb); clear hb tok2)
                | (have _t := tok3; go_at_call 12; refine (wakes_any _ E2.out.bx.tb).mono ?_; rintro e x3 ⟨rfl, hb⟩; have E3 := Lib.hid ((E2.out).below hb); clear hb tok3))
              all_goals (
                go_wp2_with (fail)
                go_ret
                exact ⟨rfl, E3.out.bx.bel⟩)
end Go.Proofs.YtgekadfkokkapaaDoor
