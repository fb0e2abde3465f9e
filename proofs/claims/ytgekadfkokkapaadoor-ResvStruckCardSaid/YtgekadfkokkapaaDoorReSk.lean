/- What a preempt strikes: the statement. -/
import Derived.Test.YtgekadfkokkapaaDoorReY
import Derived.Test.YtgekadfkokkapaaDoorReKp
namespace Go.Proofs.YtgekadfkokkapaaDoor
open Go.RowKit
/-- The command of the statement. -/
def skM (h : ByteArray) (k o y : Int) : Cm := ⟨12, 0, h, 0, 0, ⟨#[]⟩, false, none, 0, 0, k, 0, o, y, false, 0⟩
/-- Who stays, who is struck. -/
def skS (h : ByteArray) (o : Int) : Rg → Bool := fun r => eqS r.h h || r.k != o
def skQ (h : ByteArray) (o : Int) : Rg → Bool := fun r => !skS h o r
structure SkM (h : ByteArray) (t : Tl) (o y : Int) (u : Tl) (ev : List Ev) (cd : Int) : Prop where
  hs : h.size ≤ 1000
  t1 : doT t (skM h (keyR t.rs h) o y) = u
  e1 : doE t (skM h (keyR t.rs h) o y) = ev
  c1 : doC t (skM h (keyR t.rs h) o y) = cd
  yes : cd = 1 → u.rs = t.rs.filter (skS h o) ∧ u.ge = incG t.ge ∧ u.ap = t.ap ∧ ev = told 2 (skQ h o) t.rs
  no : cd ≠ 1 → cd = 2 ∧ u = t ∧ ev = [] ∧ t.rs.any (skQ h o) = false
theorem skMath {h : ByteArray} {t : Tl} {o y : Int} (hg : GoodP t) (hk : keyR t.rs h ≠ 0) (ho : o ≠ 0) (hy : 1 ≤ y ∧ y ≤ 6) : ∃ u ev cd, SkM h t o y u ev cd := by
  have hr : regB t.rs h = true := (keyR_pos hg.toRegsP).1 hk
  obtain ⟨r, hx, hxh⟩ := regB_iff.1 hr
  have hn : nameB h = true := by rw [← hxh]; exact hg.nm r hx
  have hh64 := (name_size hn).2
  have hty6 : typeB y = true := type_iff.2 (by omega)
  have hrd : regdB t (skM h (keyR t.rs h) o y) = true := regd_iff.2 ⟨hk, rfl⟩
  have hg1 : doG t (skM h (keyR t.rs h) o y) = true := doG_iff.2 ⟨⟨(by decide : (8 : Int) ≤ 12), (by decide : (12 : Int) ≤ 12)⟩, hg, hn⟩
  have hq : isR t (skM h (keyR t.rs h) o y) = skQ h o := by
    funext r
    show (!eqS r.h h && (decide (r.k = o) || (decide (o = 0) && shB t.ty))) = !(eqS r.h h || r.k != o)
    rw [decide_eq_false ho, Bool.false_and, Bool.or_false, Bool.not_or, bne, Bool.not_not, int_beq]
  have hst : staysR t (skM h (keyR t.rs h) o y) = skS h o := by
    funext r
    show (!isR t (skM h (keyR t.rs h) o y) r) = _
    rw [hq]
    show (!!skS h o r) = _
    rw [Bool.not_not]
  have hT : doT t (skM h (keyR t.rs h) o y) = preT t (skM h (keyR t.rs h) o y) := by unfold doT; rw [if_pos hg1]; rfl
  have hE : doE t (skM h (keyR t.rs h) o y) = preE t (skM h (keyR t.rs h) o y) [] := by unfold doE; rw [if_pos hg1]; rfl
  have hC : doC t (skM h (keyR t.rs h) o y) = preCode t (skM h (keyR t.rs h) o y) := by unfold doC; rw [if_pos hg1]; rfl
  refine ⟨_, _, _, ⟨by omega, rfl, rfl, rfl, fun hc => ?_, fun hc => ?_⟩⟩
  · rw [hC] at hc
    rw [hT, hE]
    unfold preT preE
    rw [if_pos hc, if_pos hc, hq, List.nil_append]
    have hl : (leftT t (skM h (keyR t.rs h) o y)).rs = t.rs.filter (skS h o) := by
      show t.rs.filter (staysR t (skM h (keyR t.rs h) o y)) = _
      rw [hst]
    split
    · exact ⟨hl, rfl, rfl, rfl⟩
    · exact ⟨hl, rfl, rfl, rfl⟩
  · have hnn := do_not (t := t) (m := skM h (keyR t.rs h) o y) hc
    rw [hC] at hc
    refine ⟨?_, hnn.1, hnn.2, ?_⟩
    · rw [hC]
      unfold preCode at hc ⊢
      rw [if_neg (by show ¬ typeB y = false; rw [hty6]; decide), if_neg (by rw [hrd]; decide)] at hc ⊢
      split at hc
      · exact absurd rfl hc
      · rename_i htk
        rw [if_neg htk]
        rw [if_neg (show ¬ (skM h (keyR t.rs h) o y).ot = 0 from ho)] at hc ⊢
        split at hc
        · exact absurd rfl hc
        · rename_i ha
          rw [if_neg ha]
    · unfold preCode at hc
      rw [if_neg (by show ¬ typeB y = false; rw [hty6]; decide), if_neg (by rw [hrd]; decide)] at hc
      split at hc
      · exact absurd rfl hc
      · rw [if_neg (show ¬ (skM h (keyR t.rs h) o y).ot = 0 from ho)] at hc
        split at hc
        · exact absurd rfl hc
        · rename_i ha
          rw [hq] at ha
          simpa using ha
theorem told_all (y : Int) (q : Rg → Bool) (l : List Rg) (k : Nat) (x : Rg) (hx : l[k]? = some x) (hq : q x = true) : (told y q l)[(told y q (l.take k)).length]? = some ⟨x.h, y⟩ ∧ (told y q (l.take k)).length < (told y q l).length := by
  have hk := (List.getElem?_eq_some_iff.1 hx).1
  have hsp : told y q l = told y q (l.take (k + 1)) ++ told y q (l.drop (k + 1)) := by
    conv => lhs; rw [← List.take_append_drop (k + 1) l]
    unfold told
    rw [List.filter_append, List.map_append]
  rw [told_take y q l k x hx, if_pos hq] at hsp
  rw [hsp]
  constructor
  · rw [List.getElem?_append_left (by simp), List.getElem?_append_right (Nat.le_refl _)]
    simp
  · simp
set_option maxRecDepth 100000 in
set_option maxHeartbeats 16000000 in
theorem struck_any (A : Option Addr) (c : Nat) (t : Tl) (h : ByteArray) (n0 n1 : Int) (w : World) (hl : Rgs w A t.rs) (hm : t.rs.length ≤ maxLen) (hn1 : 0 ≤ n1 ∧ n1 ≤ 18446744073709551615) (ht : RTab w) :
    Calls Tryd.prog 9 #[tlV A c t, .string h, .agg #[.int .u64 n0, .int .u64 n1]] w fun e w' => e = .returned (.bool true) ∧ Below w.heap.size w w' := by
  have HN1 := Lib.hid hn1
  clear hn1
  have G0 := Lib.hid (BxAt.from w A c t hl ht); have HL0 := Lib.hid hl; have HT0 := Lib.hid ht
  have HM := Lib.hid hm
  have hnt := not_true
  have hnf := not_false
  clear hl hm ht
  go_enter Tryd.func9, Tryd.ntmps9
  go_upto_region 1 with (fail)
  change Code.wp _ _ _ _ ((w.alloc (.cells (tlC A c t) 27)).alloc (.cells #[.int .u64 n0, .int .u64 n1] 55))
  have hal := (Below.refl (w.alloc (.cells (tlC A c t) 27)).heap.size (w.alloc (.cells (tlC A c t) 27))).alloc (Nat.le_refl _) (.cells #[.int .u64 n0, .int .u64 n1] 55)
  have HN := Lib.hid (Blk.new (w.alloc (.cells (tlC A c t) 27)) 55 #[.int .u64 n0, .int .u64 n1])
  have GX := Lib.hid (G0.out.below hal)
  clear hal G0
  have G0 := Lib.hid GX.out
  clear GX
  obtain ⟨pn, hpn⟩ : ∃ pn, pn = w.heap.size + 1 := ⟨_, rfl⟩
  rw [show (w.alloc (.cells (tlC A c t) 27)).heap.size = w.heap.size + 1 by simp, ← hpn] at HN
  rw [← hpn]
  clear hpn
  generalize (w.alloc (.cells (tlC A c t) 27)).alloc (.cells #[.int .u64 n0, .int .u64 n1] 55) = v0 at *
  have d0 : v0.cell? ⟨pn, 0, none⟩ = some (.int .u64 n0) := HN.out.cell 0
  have d1 : v0.cell? ⟨pn, 1, none⟩ = some (.int .u64 n1) := HN.out.cell 1
  have hb1 := HN1.out
  obtain ⟨y0, hy0⟩ : ∃ y0 : Int, y0 = n1 % 6 := ⟨_, rfl⟩
  have hy06 : 0 ≤ y0 ∧ y0 < 6 := by omega
  have hrem : Int.tmod n1 6 = y0 := by rw [hy0]; exact Int.tmod_eq_emod_of_nonneg hb1.1
  have hcv : IntKind.i64.wrap y0 = y0 := i64w _ (by omega)
  have hcu : IntKind.u64.wrap y0 = y0 := by rw [IntKind.wrap_u64]; omega
  clear hb1 hy0
  go_quiet (fail)
  have G1 := Lib.hid (G0.out.below (below_drewN (Below.refl _ _) nq))
  have HY0 := Lib.hid hy06
  clear d0 d1 hrem hcv hcu HN hy06
  generalize v0.drewN nq = v1 at *
  have c0 : v1.cell? ⟨w.heap.size, 0, none⟩ = some (.slice A t.rs.length c) := G1.out.b.cell 0
  have c1 : v1.cell? ⟨w.heap.size, 1, none⟩ = some (.int .i64 t.ty) := G1.out.b.cell 1
  have c2 : v1.cell? ⟨w.heap.size, 2, none⟩ = some (.string t.ho) := G1.out.b.cell 2
  have c3 : v1.cell? ⟨w.heap.size, 3, none⟩ = some (.int .u32 t.ge) := G1.out.b.cell 3
  have c4 : v1.cell? ⟨w.heap.size, 4, none⟩ = some (.bool t.ap) := G1.out.b.cell 4
  go_wp2_with (fail)
  refine (largeX_any A c t _ G1.out.l HM.out).mono ?_; rintro e v2 ⟨r, rfl, hr, hb⟩
  have G2 := Lib.hid (G1.out.below hb)
  have HR := Lib.hid hr; clear hr
  clear hb c0 c1 c2 c3 c4
  cases r with
  | true =>
    have c0 : v2.cell? ⟨w.heap.size, 0, none⟩ = some (.slice A t.rs.length c) := G2.out.b.cell 0
    have c1 : v2.cell? ⟨w.heap.size, 1, none⟩ = some (.int .i64 t.ty) := G2.out.b.cell 1
    have c2 : v2.cell? ⟨w.heap.size, 2, none⟩ = some (.string t.ho) := G2.out.b.cell 2
    have c3 : v2.cell? ⟨w.heap.size, 3, none⟩ = some (.int .u32 t.ge) := G2.out.b.cell 3
    have c4 : v2.cell? ⟨w.heap.size, 4, none⟩ = some (.bool t.ap) := G2.out.b.cell 4
    go_wp2_with (fail)
    refine (wakes_any _ G2.out.tb).mono ?_; rintro e v3 ⟨rfl, hb⟩
    have G3 := Lib.hid (G2.out.below hb)
    clear hb c0 c1 c2 c3 c4
    go_wp2_with (fail)
    go_ret
    exact ⟨rfl, G3.out.bel⟩
  | false =>
    have HN := Lib.hid (HR.out rfl)
    have HG := Lib.hid (fun v (hl2 : Rgs v A t.rs) => refGood_any A c t v hl2 HM.out)
    have HK := Lib.hid (fun v (hl2 : Rgs v A t.rs) => refKey_any A c t h v hl2 HM.out)
    clear HR
    cases hg : goodB t with
    | false =>
      rw [hg] at HG
      clear hg
      have c0 : v2.cell? ⟨w.heap.size, 0, none⟩ = some (.slice A t.rs.length c) := G2.out.b.cell 0
      have c1 : v2.cell? ⟨w.heap.size, 1, none⟩ = some (.int .i64 t.ty) := G2.out.b.cell 1
      have c2 : v2.cell? ⟨w.heap.size, 2, none⟩ = some (.string t.ho) := G2.out.b.cell 2
      have c3 : v2.cell? ⟨w.heap.size, 3, none⟩ = some (.int .u32 t.ge) := G2.out.b.cell 3
      have c4 : v2.cell? ⟨w.heap.size, 4, none⟩ = some (.bool t.ap) := G2.out.b.cell 4
      go_wp2_with (fail)
      refine (HG.out _ G2.out.l).mono ?_; rintro e v3 ⟨rfl, hb⟩
      have G3 := Lib.hid (G2.out.below hb)
      clear hb c0 c1 c2 c3 c4
      have c0 : v3.cell? ⟨w.heap.size, 0, none⟩ = some (.slice A t.rs.length c) := G3.out.b.cell 0
      have c1 : v3.cell? ⟨w.heap.size, 1, none⟩ = some (.int .i64 t.ty) := G3.out.b.cell 1
      have c2 : v3.cell? ⟨w.heap.size, 2, none⟩ = some (.string t.ho) := G3.out.b.cell 2
      have c3 : v3.cell? ⟨w.heap.size, 3, none⟩ = some (.int .u32 t.ge) := G3.out.b.cell 3
      have c4 : v3.cell? ⟨w.heap.size, 4, none⟩ = some (.bool t.ap) := G3.out.b.cell 4
      go_wp2_with (fail)
      refine (wakes_any _ G3.out.tb).mono ?_; rintro e v4 ⟨rfl, hb⟩
      have G4 := Lib.hid (G3.out.below hb)
      clear hb c0 c1 c2 c3 c4
      go_wp2_with (fail)
      go_ret
      exact ⟨rfl, G4.out.bel⟩
    | true =>
      rw [hg] at HG
      have HGP := Lib.hid (goodB_iff.1 hg)
      clear hg
      cases hk : (keyR t.rs h == 0) with
      | true =>
        have c0 : v2.cell? ⟨w.heap.size, 0, none⟩ = some (.slice A t.rs.length c) := G2.out.b.cell 0
        have c1 : v2.cell? ⟨w.heap.size, 1, none⟩ = some (.int .i64 t.ty) := G2.out.b.cell 1
        have c2 : v2.cell? ⟨w.heap.size, 2, none⟩ = some (.string t.ho) := G2.out.b.cell 2
        have c3 : v2.cell? ⟨w.heap.size, 3, none⟩ = some (.int .u32 t.ge) := G2.out.b.cell 3
        have c4 : v2.cell? ⟨w.heap.size, 4, none⟩ = some (.bool t.ap) := G2.out.b.cell 4
        go_wp2_with (fail)
        refine (HG.out _ G2.out.l).mono ?_; rintro e v3 ⟨rfl, hb⟩
        have G3 := Lib.hid (G2.out.below hb)
        clear hb c0 c1 c2 c3 c4
        have c0 : v3.cell? ⟨w.heap.size, 0, none⟩ = some (.slice A t.rs.length c) := G3.out.b.cell 0
        have c1 : v3.cell? ⟨w.heap.size, 1, none⟩ = some (.int .i64 t.ty) := G3.out.b.cell 1
        have c2 : v3.cell? ⟨w.heap.size, 2, none⟩ = some (.string t.ho) := G3.out.b.cell 2
        have c3 : v3.cell? ⟨w.heap.size, 3, none⟩ = some (.int .u32 t.ge) := G3.out.b.cell 3
        have c4 : v3.cell? ⟨w.heap.size, 4, none⟩ = some (.bool t.ap) := G3.out.b.cell 4
        go_wp2_with (fail)
        refine (HK.out _ G3.out.l).mono ?_; rintro e v4 ⟨rfl, hb⟩
        have G4 := Lib.hid (G3.out.below hb)
        clear hb c0 c1 c2 c3 c4
        have c0 : v4.cell? ⟨w.heap.size, 0, none⟩ = some (.slice A t.rs.length c) := G4.out.b.cell 0
        have c1 : v4.cell? ⟨w.heap.size, 1, none⟩ = some (.int .i64 t.ty) := G4.out.b.cell 1
        have c2 : v4.cell? ⟨w.heap.size, 2, none⟩ = some (.string t.ho) := G4.out.b.cell 2
        have c3 : v4.cell? ⟨w.heap.size, 3, none⟩ = some (.int .u32 t.ge) := G4.out.b.cell 3
        have c4 : v4.cell? ⟨w.heap.size, 4, none⟩ = some (.bool t.ap) := G4.out.b.cell 4
        go_wp2_with (fail)
        refine (wakes_any _ G4.out.tb).mono ?_; rintro e v5 ⟨rfl, hb⟩
        have G5 := Lib.hid (G4.out.below hb)
        clear hb c0 c1 c2 c3 c4
        go_wp2_with (fail)
        go_ret
        exact ⟨rfl, G5.out.bel⟩
      | false =>
        cases ho : (n0 == 0) with
        | true =>
          have c0 : v2.cell? ⟨w.heap.size, 0, none⟩ = some (.slice A t.rs.length c) := G2.out.b.cell 0
          have c1 : v2.cell? ⟨w.heap.size, 1, none⟩ = some (.int .i64 t.ty) := G2.out.b.cell 1
          have c2 : v2.cell? ⟨w.heap.size, 2, none⟩ = some (.string t.ho) := G2.out.b.cell 2
          have c3 : v2.cell? ⟨w.heap.size, 3, none⟩ = some (.int .u32 t.ge) := G2.out.b.cell 3
          have c4 : v2.cell? ⟨w.heap.size, 4, none⟩ = some (.bool t.ap) := G2.out.b.cell 4
          go_wp2_with (fail)
          refine (HG.out _ G2.out.l).mono ?_; rintro e v3 ⟨rfl, hb⟩
          have G3 := Lib.hid (G2.out.below hb)
          clear hb c0 c1 c2 c3 c4
          have c0 : v3.cell? ⟨w.heap.size, 0, none⟩ = some (.slice A t.rs.length c) := G3.out.b.cell 0
          have c1 : v3.cell? ⟨w.heap.size, 1, none⟩ = some (.int .i64 t.ty) := G3.out.b.cell 1
          have c2 : v3.cell? ⟨w.heap.size, 2, none⟩ = some (.string t.ho) := G3.out.b.cell 2
          have c3 : v3.cell? ⟨w.heap.size, 3, none⟩ = some (.int .u32 t.ge) := G3.out.b.cell 3
          have c4 : v3.cell? ⟨w.heap.size, 4, none⟩ = some (.bool t.ap) := G3.out.b.cell 4
          go_wp2_with (fail)
          refine (HK.out _ G3.out.l).mono ?_; rintro e v4 ⟨rfl, hb⟩
          have G4 := Lib.hid (G3.out.below hb)
          clear hb c0 c1 c2 c3 c4
          have c0 : v4.cell? ⟨w.heap.size, 0, none⟩ = some (.slice A t.rs.length c) := G4.out.b.cell 0
          have c1 : v4.cell? ⟨w.heap.size, 1, none⟩ = some (.int .i64 t.ty) := G4.out.b.cell 1
          have c2 : v4.cell? ⟨w.heap.size, 2, none⟩ = some (.string t.ho) := G4.out.b.cell 2
          have c3 : v4.cell? ⟨w.heap.size, 3, none⟩ = some (.int .u32 t.ge) := G4.out.b.cell 3
          have c4 : v4.cell? ⟨w.heap.size, 4, none⟩ = some (.bool t.ap) := G4.out.b.cell 4
          go_wp2_with (fail)
          refine (wakes_any _ G4.out.tb).mono ?_; rintro e v5 ⟨rfl, hb⟩
          have G5 := Lib.hid (G4.out.below hb)
          clear hb c0 c1 c2 c3 c4
          go_wp2_with (fail)
          go_ret
          exact ⟨rfl, G5.out.bel⟩
        | false =>
          have c0 : v2.cell? ⟨w.heap.size, 0, none⟩ = some (.slice A t.rs.length c) := G2.out.b.cell 0
          have c1 : v2.cell? ⟨w.heap.size, 1, none⟩ = some (.int .i64 t.ty) := G2.out.b.cell 1
          have c2 : v2.cell? ⟨w.heap.size, 2, none⟩ = some (.string t.ho) := G2.out.b.cell 2
          have c3 : v2.cell? ⟨w.heap.size, 3, none⟩ = some (.int .u32 t.ge) := G2.out.b.cell 3
          have c4 : v2.cell? ⟨w.heap.size, 4, none⟩ = some (.bool t.ap) := G2.out.b.cell 4
          go_wp2_with (fail)
          refine (HG.out _ G2.out.l).mono ?_; rintro e v3 ⟨rfl, hb⟩
          have G3 := Lib.hid (G2.out.below hb)
          clear hb c0 c1 c2 c3 c4
          have c0 : v3.cell? ⟨w.heap.size, 0, none⟩ = some (.slice A t.rs.length c) := G3.out.b.cell 0
          have c1 : v3.cell? ⟨w.heap.size, 1, none⟩ = some (.int .i64 t.ty) := G3.out.b.cell 1
          have c2 : v3.cell? ⟨w.heap.size, 2, none⟩ = some (.string t.ho) := G3.out.b.cell 2
          have c3 : v3.cell? ⟨w.heap.size, 3, none⟩ = some (.int .u32 t.ge) := G3.out.b.cell 3
          have c4 : v3.cell? ⟨w.heap.size, 4, none⟩ = some (.bool t.ap) := G3.out.b.cell 4
          go_wp2_with (fail)
          refine (HK.out _ G3.out.l).mono ?_; rintro e v4 ⟨rfl, hb⟩
          have G4 := Lib.hid (G3.out.below hb)
          clear hb c0 c1 c2 c3 c4
          have c0 : v4.cell? ⟨w.heap.size, 0, none⟩ = some (.slice A t.rs.length c) := G4.out.b.cell 0
          have c1 : v4.cell? ⟨w.heap.size, 1, none⟩ = some (.int .i64 t.ty) := G4.out.b.cell 1
          have c2 : v4.cell? ⟨w.heap.size, 2, none⟩ = some (.string t.ho) := G4.out.b.cell 2
          have c3 : v4.cell? ⟨w.heap.size, 3, none⟩ = some (.int .u32 t.ge) := G4.out.b.cell 3
          have c4 : v4.cell? ⟨w.heap.size, 4, none⟩ = some (.bool t.ap) := G4.out.b.cell 4
          go_wp2_with (fail)
          refine (HK.out _ G4.out.l).mono ?_; rintro e v5 ⟨rfl, hb⟩
          have G5 := Lib.hid (G4.out.below hb)
          clear hb c0 c1 c2 c3 c4
          have HKN := Lib.hid (neB hk)
          have HON := Lib.hid (neB ho)
          clear hk ho
          obtain ⟨z, hz, hz0, hz6⟩ : ∃ z : Int, z = y0 % 6 ∧ 0 ≤ z ∧ z < 6 := ⟨_, rfl, by omega, by omega⟩
          have hmo := mod_any y0 6 (by decide) (by decide) v5
          rw [show ((6 : Nat) : Int) = 6 from rfl, ← hz] at hmo
          have hwz : IntKind.i64.wrap (1 + z) = 1 + z := i64w _ (by omega)
          go_wp2_with (fail)
          refine hmo.mono ?_; rintro e v5' ⟨rfl, rfl⟩
          clear hmo hz
          have k5 : ∀ v : World, (Instr.build 37 #[(0, .int .i64 12), (2, .string h), (8, .int .u64 (keyR t.rs h)), (10, .int .u64 n0), (11, .int .i64 (1 + z))]).run Tryd.prog v = .ok (cmV (skM h (keyR t.rs h) n0 (1 + z))) v := fun _ => by kernel_rfl
          go_upto_region 5 with (fail)
          change Code.wp _ _ _ _ (v5.alloc (.cells (cmC (skM h (keyR t.rs h) n0 (1 + z))) 37))
          obtain ⟨u, ev, cd, hM⟩ := skMath HGP.out HKN.out HON.out (show 1 ≤ 1 + z ∧ 1 + z ≤ 6 by omega)
          have HMM := Lib.hid hM
          have hal := (Below.refl v5.heap.size v5).alloc (Nat.le_refl _) (.cells (cmC (skM h (keyR t.rs h) n0 (1 + z))) 37)
          have HCM := Lib.hid (Blk.new v5 37 (cmC (skM h (keyR t.rs h) n0 (1 + z)))); have G6 := Lib.hid (G5.out.below hal)
          obtain ⟨pm, hpm⟩ : ∃ pm, pm = v5.heap.size := ⟨_, rfl⟩
          rw [← hpm] at HCM ⊢
          clear hal hpm k5 hwz hM hz0 hz6
          generalize v5.alloc (.cells (cmC (skM h (keyR t.rs h) n0 (1 + z))) 37) = v6 at *
          have HBx0 := Lib.hid (show Below v6.heap.size v6 v6.drew from (Below.refl _ _).drew)
          refine wp_region_any (by kernel_rfl) ?_
          change wpAny _ _ _ _ _ _ _ (World.drew v6)
          rename_i KRx hKRx
          generalize v6.drew = x0 at *
          apply share8 (DoBox v6 (u) (ev))
          · intro HSH
            refine wpAny_ready (rs := [0, 2, 8]) (by kernel_rfl) (by simp) ?_
            refine AllReady.cons rfl (fun KK hKK => ?_) ?_
            · skip
              refine step_load (by rfl) 27 (.tmp 3) (by rfl) w.heap.size (by rfl) 27 (tlC A c t) ((G6.out.b).below HBx0.out (G6.out.b).lt) _ Tryd.underlying27 rfl size27 (some 50) rfl ?_
              refine hKK _ _ ?_; clear hKK KK; simp only [Act.put, List.setIfInBounds_toArray, List.set_cons_zero, List.set_cons_succ]
              refine wpAny_ready (rs := [1, 2, 8]) (by kernel_rfl) (by simp) ?_
              refine AllReady.cons rfl (fun KK hKK => ?_) ?_
              · skip
                refine step_call1 (by rfl) 13 (.tmp 50) _ (by rfl) (tlV A c t) (by rfl) (fun _ _ => rfl) _ (copy_any A c t x0 ((G6.out.l).below HBx0.out) (Nat.le_trans (HN.out).1 (by decide))) (some 51) rfl ?_
                rintro e x1 ⟨A5, c5, rfl, ho5, hb⟩
                refine ⟨_, rfl, ?_⟩
                have HBx1 := Lib.hid ((HBx0.out).trans (hb.mono (HBx0.out).size)); have HC1 := Lib.hid ho5.rgs
                clear hb ho5; refine hKK _ _ ?_; clear hKK KK; simp only [Act.put, List.setIfInBounds_toArray, List.set_cons_zero, List.set_cons_succ]
                refine wpAny_ready (rs := [2, 8]) (by kernel_rfl) (by simp) ?_
                refine AllReady.cons rfl (fun KK hKK => ?_) ?_
                · skip
                  refine step_load (by rfl) 37 (.tmp 9) (by rfl) pm (by rfl) 37 (cmC (skM h (keyR t.rs h) n0 (1 + z))) ((HCM.out).below HBx1.out (HCM.out).lt) _ Tryd.underlying37 rfl size37 (some 52) rfl ?_
                  refine hKK _ _ ?_; clear hKK KK; simp only [Act.put, List.setIfInBounds_toArray, List.set_cons_zero, List.set_cons_succ]
                  refine wpAny_ready (rs := [3, 8]) (by kernel_rfl) (by simp) ?_
                  refine AllReady.cons rfl (fun KK hKK => ?_) ?_
                  · skip
                    refine step_call2 (by rfl) 22 (.tmp 51) (.tmp 52) _ (by rfl) (tlV A5 c5 t) (cmV (skM h (keyR t.rs h) n0 (1 + z))) (by rfl) (by rfl) (fun _ _ => rfl) _ (do_as (w := x1) HC1.out (HN.out) (HMM.out.hs) ((G6.out.tb).below HBx1.out) (HMM.out.t1) (HMM.out.e1) (HMM.out.c1)) (some 53) rfl ?_
                    rintro e x2 ⟨A6, c6, B6, e6, rfl, ho6, he6, hb⟩
                    refine ⟨_, rfl, ?_⟩
                    have HBx2 := Lib.hid ((HBx1.out).trans (hb.mono (HBx1.out).size)); have HO2 := Lib.hid (Own.base ho6 (HBx1.out).size); have HE2 := Lib.hid (OwnE.base he6 (HBx1.out).size)
                    clear hb ho6 he6; refine hKK _ _ ?_; clear hKK KK; simp only [Act.put, List.setIfInBounds_toArray, List.set_cons_zero, List.set_cons_succ]
                    refine take_at (i := 4) (v := ?_) rfl (by kernel_rfl) (by kernel_rfl) (by kernel_rfl) (fun _ _ _ h => h) (some 49) rfl (Or.inl ⟨by rfl, ?_⟩) ?_
                    rotate_left 1
                    · intro w; go_simp; try with_reducible rfl
                    simp only [Act.put, List.setIfInBounds_toArray, List.set_cons_zero, List.set_cons_succ]
                    refine take_at (i := 5) (v := ?_) rfl (by kernel_rfl) (by kernel_rfl) (by kernel_rfl) (fun _ _ _ h => h) (some 54) rfl (Or.inl ⟨by rfl, ?_⟩) ?_
                    rotate_left 1
                    · intro w; go_simp; try with_reducible rfl
                    simp only [Act.put, List.setIfInBounds_toArray, List.set_cons_zero, List.set_cons_succ]
                    refine take_at (i := 6) (v := ?_) rfl (by kernel_rfl) (by kernel_rfl) (by kernel_rfl) (fun _ _ _ h => h) (some 55) rfl (Or.inl ⟨by rfl, ?_⟩) ?_
                    rotate_left 1
                    · intro w; go_simp; try with_reducible rfl
                    simp only [Act.put, List.setIfInBounds_toArray, List.set_cons_zero, List.set_cons_succ]
                    refine take_at (i := 7) (v := ?_) rfl (by kernel_rfl) (by kernel_rfl) (by kernel_rfl) (fun _ _ _ h => h) (some 56) rfl (Or.inl ⟨by rfl, ?_⟩) ?_
                    rotate_left 1
                    · intro w; go_simp; try with_reducible rfl
                    simp only [Act.put, List.setIfInBounds_toArray, List.set_cons_zero, List.set_cons_succ]
                    refine wpAny_ready (rs := [8]) (by kernel_rfl) (by simp) ?_
                    refine AllReady.cons rfl (fun KK hKK => ?_) ?_
                    · skip
                      go_simp
                      refine hKK _ _ ?_; clear hKK KK; try simp only [Act.put, List.setIfInBounds_toArray, List.set_cons_zero, List.set_cons_succ]
                      change wpAny _ _ _ _ _ _ _ (x2.alloc (.cells tlZ 27))
                      have hal := (Below.refl x2.heap.size x2).alloc (Nat.le_refl _) (.cells tlZ 27)
                      have HBx3 := Lib.hid ((HBx2.out).trans (hal.mono (HBx2.out).size)); have HP3 := Lib.hid (Blk.new x2 27 tlZ); have HQ := Lib.hid ((HBx2.out).size)
                      have HO3 := Lib.hid (HO2.out.below hal); have HE3 := Lib.hid (HE2.out.below hal)
                      clear hal
                      generalize x2.alloc (.cells tlZ 27) = x3 at *
                      obtain ⟨p, hp⟩ : ∃ p, p = x2.heap.size := ⟨_, rfl⟩
                      rw [← hp] at HP3 HQ ⊢; clear hp
                      refine wpAny_ready (rs := [9]) (by kernel_rfl) (by simp) ?_
                      refine AllReady.cons rfl (fun KK hKK => ?_) AllReady.nil
                      refine step_store (by rfl) 27 (.tmp 10) (.tmp 54) (by rfl) _ (tlC A6 c6 (u)) (by rfl) (by rfl) 27 tlZ HP3.out size27 rfl (tlC_one ..) none rfl ?_
                      intro v hbk hon
                      have HX := DoBox.made (A5 := A5) (c5 := c5) HBx3.out HQ.out HP3.out HO3.out HE3.out hbk hon
                      clear hbk hon; refine hKK _ _ ?_; clear hKK KK; simp only [Act.put]
                      refine take_at (i := 10) (v := ?_) rfl (by kernel_rfl) (by kernel_rfl) (by kernel_rfl) (fun _ _ _ h => h) (some 11) rfl (Or.inl ⟨by rfl, ?_⟩) ?_
                      rotate_left 1
                      · intro w; go_simp; try with_reducible rfl
                      simp only [Act.put, List.setIfInBounds_toArray, List.set_cons_zero, List.set_cons_succ]
                      refine take_at (i := 11) (v := ?_) rfl (by kernel_rfl) (by kernel_rfl) (by kernel_rfl) (fun _ _ _ h => h) (some 12) rfl (Or.inl ⟨by rfl, ?_⟩) ?_
                      rotate_left 1
                      · intro w; go_simp; try with_reducible rfl
                      simp only [Act.put, List.setIfInBounds_toArray, List.set_cons_zero, List.set_cons_succ]
                      refine wpAny_done (by kernel_rfl) ?_ _
                      exact HSH _ _ _ _ _ _ _ _ HX
                    exact AllReady.nil
                  refine AllReady.cons rfl (fun KK hKK => ?_) ?_
                  · skip
                    go_simp
                    refine hKK _ _ ?_; clear hKK KK; try simp only [Act.put, List.setIfInBounds_toArray, List.set_cons_zero, List.set_cons_succ]
                    change wpAny _ _ _ _ _ _ _ (x1.alloc (.cells tlZ 27))
                    have hal := (Below.refl x1.heap.size x1).alloc (Nat.le_refl _) (.cells tlZ 27)
                    have HBx5 := Lib.hid ((HBx1.out).trans (hal.mono (HBx1.out).size)); have HP5 := Lib.hid (Blk.new x1 27 tlZ); have HQ := Lib.hid ((HBx1.out).size)
                    have HC5 := Lib.hid (HC1.out.below hal)
                    clear hal
                    generalize x1.alloc (.cells tlZ 27) = x5 at *
                    obtain ⟨p, hp⟩ : ∃ p, p = x1.heap.size := ⟨_, rfl⟩
                    rw [← hp] at HP5 HQ ⊢; clear hp
                    refine wpAny_ready (rs := [3]) (by kernel_rfl) (by simp) ?_
                    refine AllReady.cons rfl (fun KK hKK => ?_) ?_
                    · skip
                      refine step_call2 (by rfl) 22 (.tmp 51) (.tmp 52) _ (by rfl) (tlV A5 c5 t) (cmV (skM h (keyR t.rs h) n0 (1 + z))) (by rfl) (by rfl) (fun _ _ => rfl) _ (do_as (w := x5) HC5.out (HN.out) (HMM.out.hs) ((G6.out.tb).below HBx5.out) (HMM.out.t1) (HMM.out.e1) (HMM.out.c1)) (some 53) rfl ?_
                      rintro e x6 ⟨A6, c6, B6, e6, rfl, ho6, he6, hb⟩
                      refine ⟨_, rfl, ?_⟩
                      have HBx6 := Lib.hid ((HBx5.out).trans (hb.mono (HBx5.out).size)); have HO6 := Lib.hid (Own.base ho6 (HBx5.out).size); have HE6 := Lib.hid (OwnE.base he6 (HBx5.out).size)
                      have HP6 := Lib.hid (HP5.out.below hb HP5.out.lt)
                      clear hb ho6 he6; refine hKK _ _ ?_; clear hKK KK; simp only [Act.put, List.setIfInBounds_toArray, List.set_cons_zero, List.set_cons_succ]
                      refine take_at (i := 4) (v := ?_) rfl (by kernel_rfl) (by kernel_rfl) (by kernel_rfl) (fun _ _ _ h => h) (some 49) rfl (Or.inl ⟨by rfl, ?_⟩) ?_
                      rotate_left 1
                      · intro w; go_simp; try with_reducible rfl
                      simp only [Act.put, List.setIfInBounds_toArray, List.set_cons_zero, List.set_cons_succ]
                      refine take_at (i := 5) (v := ?_) rfl (by kernel_rfl) (by kernel_rfl) (by kernel_rfl) (fun _ _ _ h => h) (some 54) rfl (Or.inl ⟨by rfl, ?_⟩) ?_
                      rotate_left 1
                      · intro w; go_simp; try with_reducible rfl
                      simp only [Act.put, List.setIfInBounds_toArray, List.set_cons_zero, List.set_cons_succ]
                      refine take_at (i := 6) (v := ?_) rfl (by kernel_rfl) (by kernel_rfl) (by kernel_rfl) (fun _ _ _ h => h) (some 55) rfl (Or.inl ⟨by rfl, ?_⟩) ?_
                      rotate_left 1
                      · intro w; go_simp; try with_reducible rfl
                      simp only [Act.put, List.setIfInBounds_toArray, List.set_cons_zero, List.set_cons_succ]
                      refine take_at (i := 7) (v := ?_) rfl (by kernel_rfl) (by kernel_rfl) (by kernel_rfl) (fun _ _ _ h => h) (some 56) rfl (Or.inl ⟨by rfl, ?_⟩) ?_
                      rotate_left 1
                      · intro w; go_simp; try with_reducible rfl
                      simp only [Act.put, List.setIfInBounds_toArray, List.set_cons_zero, List.set_cons_succ]
                      refine wpAny_ready (rs := [9]) (by kernel_rfl) (by simp) ?_
                      refine AllReady.cons rfl (fun KK hKK => ?_) AllReady.nil
                      refine step_store (by rfl) 27 (.tmp 10) (.tmp 54) (by rfl) _ (tlC A6 c6 (u)) (by rfl) (by rfl) 27 tlZ HP6.out size27 rfl (tlC_one ..) none rfl ?_
                      intro v hbk hon
                      have HX := DoBox.made (A5 := A5) (c5 := c5) HBx6.out HQ.out HP6.out HO6.out HE6.out hbk hon
                      clear hbk hon; refine hKK _ _ ?_; clear hKK KK; simp only [Act.put]
                      refine take_at (i := 10) (v := ?_) rfl (by kernel_rfl) (by kernel_rfl) (by kernel_rfl) (fun _ _ _ h => h) (some 11) rfl (Or.inl ⟨by rfl, ?_⟩) ?_
                      rotate_left 1
                      · intro w; go_simp; try with_reducible rfl
                      simp only [Act.put, List.setIfInBounds_toArray, List.set_cons_zero, List.set_cons_succ]
                      refine take_at (i := 11) (v := ?_) rfl (by kernel_rfl) (by kernel_rfl) (by kernel_rfl) (fun _ _ _ h => h) (some 12) rfl (Or.inl ⟨by rfl, ?_⟩) ?_
                      rotate_left 1
                      · intro w; go_simp; try with_reducible rfl
                      simp only [Act.put, List.setIfInBounds_toArray, List.set_cons_zero, List.set_cons_succ]
                      refine wpAny_done (by kernel_rfl) ?_ _
                      exact HSH _ _ _ _ _ _ _ _ HX
                    exact AllReady.nil
                  exact AllReady.nil
                refine AllReady.cons rfl (fun KK hKK => ?_) ?_
                · skip
                  go_simp
                  refine hKK _ _ ?_; clear hKK KK; try simp only [Act.put, List.setIfInBounds_toArray, List.set_cons_zero, List.set_cons_succ]
                  change wpAny _ _ _ _ _ _ _ (x1.alloc (.cells tlZ 27))
                  have hal := (Below.refl x1.heap.size x1).alloc (Nat.le_refl _) (.cells tlZ 27)
                  have HBx8 := Lib.hid ((HBx1.out).trans (hal.mono (HBx1.out).size)); have HP8 := Lib.hid (Blk.new x1 27 tlZ); have HQ := Lib.hid ((HBx1.out).size)
                  have HC8 := Lib.hid (HC1.out.below hal)
                  clear hal
                  generalize x1.alloc (.cells tlZ 27) = x8 at *
                  obtain ⟨p, hp⟩ : ∃ p, p = x1.heap.size := ⟨_, rfl⟩
                  rw [← hp] at HP8 HQ ⊢; clear hp
                  refine wpAny_ready (rs := [2]) (by kernel_rfl) (by simp) ?_
                  refine AllReady.cons rfl (fun KK hKK => ?_) ?_
                  · skip
                    refine step_load (by rfl) 37 (.tmp 9) (by rfl) pm (by rfl) 37 (cmC (skM h (keyR t.rs h) n0 (1 + z))) ((HCM.out).below HBx8.out (HCM.out).lt) _ Tryd.underlying37 rfl size37 (some 52) rfl ?_
                    refine hKK _ _ ?_; clear hKK KK; simp only [Act.put, List.setIfInBounds_toArray, List.set_cons_zero, List.set_cons_succ]
                    refine wpAny_ready (rs := [3]) (by kernel_rfl) (by simp) ?_
                    refine AllReady.cons rfl (fun KK hKK => ?_) ?_
                    · skip
                      refine step_call2 (by rfl) 22 (.tmp 51) (.tmp 52) _ (by rfl) (tlV A5 c5 t) (cmV (skM h (keyR t.rs h) n0 (1 + z))) (by rfl) (by rfl) (fun _ _ => rfl) _ (do_as (w := x8) HC8.out (HN.out) (HMM.out.hs) ((G6.out.tb).below HBx8.out) (HMM.out.t1) (HMM.out.e1) (HMM.out.c1)) (some 53) rfl ?_
                      rintro e x9 ⟨A6, c6, B6, e6, rfl, ho6, he6, hb⟩
                      refine ⟨_, rfl, ?_⟩
                      have HBx9 := Lib.hid ((HBx8.out).trans (hb.mono (HBx8.out).size)); have HO9 := Lib.hid (Own.base ho6 (HBx8.out).size); have HE9 := Lib.hid (OwnE.base he6 (HBx8.out).size)
                      have HP9 := Lib.hid (HP8.out.below hb HP8.out.lt)
                      clear hb ho6 he6; refine hKK _ _ ?_; clear hKK KK; simp only [Act.put, List.setIfInBounds_toArray, List.set_cons_zero, List.set_cons_succ]
                      refine take_at (i := 4) (v := ?_) rfl (by kernel_rfl) (by kernel_rfl) (by kernel_rfl) (fun _ _ _ h => h) (some 49) rfl (Or.inl ⟨by rfl, ?_⟩) ?_
                      rotate_left 1
                      · intro w; go_simp; try with_reducible rfl
                      simp only [Act.put, List.setIfInBounds_toArray, List.set_cons_zero, List.set_cons_succ]
                      refine take_at (i := 5) (v := ?_) rfl (by kernel_rfl) (by kernel_rfl) (by kernel_rfl) (fun _ _ _ h => h) (some 54) rfl (Or.inl ⟨by rfl, ?_⟩) ?_
                      rotate_left 1
                      · intro w; go_simp; try with_reducible rfl
                      simp only [Act.put, List.setIfInBounds_toArray, List.set_cons_zero, List.set_cons_succ]
                      refine take_at (i := 6) (v := ?_) rfl (by kernel_rfl) (by kernel_rfl) (by kernel_rfl) (fun _ _ _ h => h) (some 55) rfl (Or.inl ⟨by rfl, ?_⟩) ?_
                      rotate_left 1
                      · intro w; go_simp; try with_reducible rfl
                      simp only [Act.put, List.setIfInBounds_toArray, List.set_cons_zero, List.set_cons_succ]
                      refine take_at (i := 7) (v := ?_) rfl (by kernel_rfl) (by kernel_rfl) (by kernel_rfl) (fun _ _ _ h => h) (some 56) rfl (Or.inl ⟨by rfl, ?_⟩) ?_
                      rotate_left 1
                      · intro w; go_simp; try with_reducible rfl
                      simp only [Act.put, List.setIfInBounds_toArray, List.set_cons_zero, List.set_cons_succ]
                      refine wpAny_ready (rs := [9]) (by kernel_rfl) (by simp) ?_
                      refine AllReady.cons rfl (fun KK hKK => ?_) AllReady.nil
                      refine step_store (by rfl) 27 (.tmp 10) (.tmp 54) (by rfl) _ (tlC A6 c6 (u)) (by rfl) (by rfl) 27 tlZ HP9.out size27 rfl (tlC_one ..) none rfl ?_
                      intro v hbk hon
                      have HX := DoBox.made (A5 := A5) (c5 := c5) HBx9.out HQ.out HP9.out HO9.out HE9.out hbk hon
                      clear hbk hon; refine hKK _ _ ?_; clear hKK KK; simp only [Act.put]
                      refine take_at (i := 10) (v := ?_) rfl (by kernel_rfl) (by kernel_rfl) (by kernel_rfl) (fun _ _ _ h => h) (some 11) rfl (Or.inl ⟨by rfl, ?_⟩) ?_
                      rotate_left 1
                      · intro w; go_simp; try with_reducible rfl
                      simp only [Act.put, List.setIfInBounds_toArray, List.set_cons_zero, List.set_cons_succ]
                      refine take_at (i := 11) (v := ?_) rfl (by kernel_rfl) (by kernel_rfl) (by kernel_rfl) (fun _ _ _ h => h) (some 12) rfl (Or.inl ⟨by rfl, ?_⟩) ?_
                      rotate_left 1
                      · intro w; go_simp; try with_reducible rfl
                      simp only [Act.put, List.setIfInBounds_toArray, List.set_cons_zero, List.set_cons_succ]
                      refine wpAny_done (by kernel_rfl) ?_ _
                      exact HSH _ _ _ _ _ _ _ _ HX
                    exact AllReady.nil
                  exact AllReady.nil
                exact AllReady.nil
              refine AllReady.cons rfl (fun KK hKK => ?_) ?_
              · skip
                refine step_load (by rfl) 37 (.tmp 9) (by rfl) pm (by rfl) 37 (cmC (skM h (keyR t.rs h) n0 (1 + z))) ((HCM.out).below HBx0.out (HCM.out).lt) _ Tryd.underlying37 rfl size37 (some 52) rfl ?_
                refine hKK _ _ ?_; clear hKK KK; simp only [Act.put, List.setIfInBounds_toArray, List.set_cons_zero, List.set_cons_succ]
                refine wpAny_ready (rs := [1, 8]) (by kernel_rfl) (by simp) ?_
                refine AllReady.cons rfl (fun KK hKK => ?_) ?_
                · skip
                  refine step_call1 (by rfl) 13 (.tmp 50) _ (by rfl) (tlV A c t) (by rfl) (fun _ _ => rfl) _ (copy_any A c t x0 ((G6.out.l).below HBx0.out) (Nat.le_trans (HN.out).1 (by decide))) (some 51) rfl ?_
                  rintro e x11 ⟨A5, c5, rfl, ho5, hb⟩
                  refine ⟨_, rfl, ?_⟩
                  have HBx11 := Lib.hid ((HBx0.out).trans (hb.mono (HBx0.out).size)); have HC11 := Lib.hid ho5.rgs
                  clear hb ho5; refine hKK _ _ ?_; clear hKK KK; simp only [Act.put, List.setIfInBounds_toArray, List.set_cons_zero, List.set_cons_succ]
                  refine wpAny_ready (rs := [3, 8]) (by kernel_rfl) (by simp) ?_
                  refine AllReady.cons rfl (fun KK hKK => ?_) ?_
                  · skip
                    refine step_call2 (by rfl) 22 (.tmp 51) (.tmp 52) _ (by rfl) (tlV A5 c5 t) (cmV (skM h (keyR t.rs h) n0 (1 + z))) (by rfl) (by rfl) (fun _ _ => rfl) _ (do_as (w := x11) HC11.out (HN.out) (HMM.out.hs) ((G6.out.tb).below HBx11.out) (HMM.out.t1) (HMM.out.e1) (HMM.out.c1)) (some 53) rfl ?_
                    rintro e x12 ⟨A6, c6, B6, e6, rfl, ho6, he6, hb⟩
                    refine ⟨_, rfl, ?_⟩
                    have HBx12 := Lib.hid ((HBx11.out).trans (hb.mono (HBx11.out).size)); have HO12 := Lib.hid (Own.base ho6 (HBx11.out).size); have HE12 := Lib.hid (OwnE.base he6 (HBx11.out).size)
                    clear hb ho6 he6; refine hKK _ _ ?_; clear hKK KK; simp only [Act.put, List.setIfInBounds_toArray, List.set_cons_zero, List.set_cons_succ]
                    refine take_at (i := 4) (v := ?_) rfl (by kernel_rfl) (by kernel_rfl) (by kernel_rfl) (fun _ _ _ h => h) (some 49) rfl (Or.inl ⟨by rfl, ?_⟩) ?_
                    rotate_left 1
                    · intro w; go_simp; try with_reducible rfl
                    simp only [Act.put, List.setIfInBounds_toArray, List.set_cons_zero, List.set_cons_succ]
                    refine take_at (i := 5) (v := ?_) rfl (by kernel_rfl) (by kernel_rfl) (by kernel_rfl) (fun _ _ _ h => h) (some 54) rfl (Or.inl ⟨by rfl, ?_⟩) ?_
                    rotate_left 1
                    · intro w; go_simp; try with_reducible rfl
                    simp only [Act.put, List.setIfInBounds_toArray, List.set_cons_zero, List.set_cons_succ]
                    refine take_at (i := 6) (v := ?_) rfl (by kernel_rfl) (by kernel_rfl) (by kernel_rfl) (fun _ _ _ h => h) (some 55) rfl (Or.inl ⟨by rfl, ?_⟩) ?_
                    rotate_left 1
                    · intro w; go_simp; try with_reducible rfl
                    simp only [Act.put, List.setIfInBounds_toArray, List.set_cons_zero, List.set_cons_succ]
                    refine take_at (i := 7) (v := ?_) rfl (by kernel_rfl) (by kernel_rfl) (by kernel_rfl) (fun _ _ _ h => h) (some 56) rfl (Or.inl ⟨by rfl, ?_⟩) ?_
                    rotate_left 1
                    · intro w; go_simp; try with_reducible rfl
                    simp only [Act.put, List.setIfInBounds_toArray, List.set_cons_zero, List.set_cons_succ]
                    refine wpAny_ready (rs := [8]) (by kernel_rfl) (by simp) ?_
                    refine AllReady.cons rfl (fun KK hKK => ?_) ?_
                    · skip
                      go_simp
                      refine hKK _ _ ?_; clear hKK KK; try simp only [Act.put, List.setIfInBounds_toArray, List.set_cons_zero, List.set_cons_succ]
                      change wpAny _ _ _ _ _ _ _ (x12.alloc (.cells tlZ 27))
                      have hal := (Below.refl x12.heap.size x12).alloc (Nat.le_refl _) (.cells tlZ 27)
                      have HBx13 := Lib.hid ((HBx12.out).trans (hal.mono (HBx12.out).size)); have HP13 := Lib.hid (Blk.new x12 27 tlZ); have HQ := Lib.hid ((HBx12.out).size)
                      have HO13 := Lib.hid (HO12.out.below hal); have HE13 := Lib.hid (HE12.out.below hal)
                      clear hal
                      generalize x12.alloc (.cells tlZ 27) = x13 at *
                      obtain ⟨p, hp⟩ : ∃ p, p = x12.heap.size := ⟨_, rfl⟩
                      rw [← hp] at HP13 HQ ⊢; clear hp
                      refine wpAny_ready (rs := [9]) (by kernel_rfl) (by simp) ?_
                      refine AllReady.cons rfl (fun KK hKK => ?_) AllReady.nil
                      refine step_store (by rfl) 27 (.tmp 10) (.tmp 54) (by rfl) _ (tlC A6 c6 (u)) (by rfl) (by rfl) 27 tlZ HP13.out size27 rfl (tlC_one ..) none rfl ?_
                      intro v hbk hon
                      have HX := DoBox.made (A5 := A5) (c5 := c5) HBx13.out HQ.out HP13.out HO13.out HE13.out hbk hon
                      clear hbk hon; refine hKK _ _ ?_; clear hKK KK; simp only [Act.put]
                      refine take_at (i := 10) (v := ?_) rfl (by kernel_rfl) (by kernel_rfl) (by kernel_rfl) (fun _ _ _ h => h) (some 11) rfl (Or.inl ⟨by rfl, ?_⟩) ?_
                      rotate_left 1
                      · intro w; go_simp; try with_reducible rfl
                      simp only [Act.put, List.setIfInBounds_toArray, List.set_cons_zero, List.set_cons_succ]
                      refine take_at (i := 11) (v := ?_) rfl (by kernel_rfl) (by kernel_rfl) (by kernel_rfl) (fun _ _ _ h => h) (some 12) rfl (Or.inl ⟨by rfl, ?_⟩) ?_
                      rotate_left 1
                      · intro w; go_simp; try with_reducible rfl
                      simp only [Act.put, List.setIfInBounds_toArray, List.set_cons_zero, List.set_cons_succ]
                      refine wpAny_done (by kernel_rfl) ?_ _
                      exact HSH _ _ _ _ _ _ _ _ HX
                    exact AllReady.nil
                  refine AllReady.cons rfl (fun KK hKK => ?_) ?_
                  · skip
                    go_simp
                    refine hKK _ _ ?_; clear hKK KK; try simp only [Act.put, List.setIfInBounds_toArray, List.set_cons_zero, List.set_cons_succ]
                    change wpAny _ _ _ _ _ _ _ (x11.alloc (.cells tlZ 27))
                    have hal := (Below.refl x11.heap.size x11).alloc (Nat.le_refl _) (.cells tlZ 27)
                    have HBx15 := Lib.hid ((HBx11.out).trans (hal.mono (HBx11.out).size)); have HP15 := Lib.hid (Blk.new x11 27 tlZ); have HQ := Lib.hid ((HBx11.out).size)
                    have HC15 := Lib.hid (HC11.out.below hal)
                    clear hal
                    generalize x11.alloc (.cells tlZ 27) = x15 at *
                    obtain ⟨p, hp⟩ : ∃ p, p = x11.heap.size := ⟨_, rfl⟩
                    rw [← hp] at HP15 HQ ⊢; clear hp
                    refine wpAny_ready (rs := [3]) (by kernel_rfl) (by simp) ?_
                    refine AllReady.cons rfl (fun KK hKK => ?_) ?_
                    · skip
                      refine step_call2 (by rfl) 22 (.tmp 51) (.tmp 52) _ (by rfl) (tlV A5 c5 t) (cmV (skM h (keyR t.rs h) n0 (1 + z))) (by rfl) (by rfl) (fun _ _ => rfl) _ (do_as (w := x15) HC15.out (HN.out) (HMM.out.hs) ((G6.out.tb).below HBx15.out) (HMM.out.t1) (HMM.out.e1) (HMM.out.c1)) (some 53) rfl ?_
                      rintro e x16 ⟨A6, c6, B6, e6, rfl, ho6, he6, hb⟩
                      refine ⟨_, rfl, ?_⟩
                      have HBx16 := Lib.hid ((HBx15.out).trans (hb.mono (HBx15.out).size)); have HO16 := Lib.hid (Own.base ho6 (HBx15.out).size); have HE16 := Lib.hid (OwnE.base he6 (HBx15.out).size)
                      have HP16 := Lib.hid (HP15.out.below hb HP15.out.lt)
                      clear hb ho6 he6; refine hKK _ _ ?_; clear hKK KK; simp only [Act.put, List.setIfInBounds_toArray, List.set_cons_zero, List.set_cons_succ]
                      refine take_at (i := 4) (v := ?_) rfl (by kernel_rfl) (by kernel_rfl) (by kernel_rfl) (fun _ _ _ h => h) (some 49) rfl (Or.inl ⟨by rfl, ?_⟩) ?_
                      rotate_left 1
                      · intro w; go_simp; try with_reducible rfl
                      simp only [Act.put, List.setIfInBounds_toArray, List.set_cons_zero, List.set_cons_succ]
                      refine take_at (i := 5) (v := ?_) rfl (by kernel_rfl) (by kernel_rfl) (by kernel_rfl) (fun _ _ _ h => h) (some 54) rfl (Or.inl ⟨by rfl, ?_⟩) ?_
                      rotate_left 1
                      · intro w; go_simp; try with_reducible rfl
                      simp only [Act.put, List.setIfInBounds_toArray, List.set_cons_zero, List.set_cons_succ]
                      refine take_at (i := 6) (v := ?_) rfl (by kernel_rfl) (by kernel_rfl) (by kernel_rfl) (fun _ _ _ h => h) (some 55) rfl (Or.inl ⟨by rfl, ?_⟩) ?_
                      rotate_left 1
                      · intro w; go_simp; try with_reducible rfl
                      simp only [Act.put, List.setIfInBounds_toArray, List.set_cons_zero, List.set_cons_succ]
                      refine take_at (i := 7) (v := ?_) rfl (by kernel_rfl) (by kernel_rfl) (by kernel_rfl) (fun _ _ _ h => h) (some 56) rfl (Or.inl ⟨by rfl, ?_⟩) ?_
                      rotate_left 1
                      · intro w; go_simp; try with_reducible rfl
                      simp only [Act.put, List.setIfInBounds_toArray, List.set_cons_zero, List.set_cons_succ]
                      refine wpAny_ready (rs := [9]) (by kernel_rfl) (by simp) ?_
                      refine AllReady.cons rfl (fun KK hKK => ?_) AllReady.nil
                      refine step_store (by rfl) 27 (.tmp 10) (.tmp 54) (by rfl) _ (tlC A6 c6 (u)) (by rfl) (by rfl) 27 tlZ HP16.out size27 rfl (tlC_one ..) none rfl ?_
                      intro v hbk hon
                      have HX := DoBox.made (A5 := A5) (c5 := c5) HBx16.out HQ.out HP16.out HO16.out HE16.out hbk hon
                      clear hbk hon; refine hKK _ _ ?_; clear hKK KK; simp only [Act.put]
                      refine take_at (i := 10) (v := ?_) rfl (by kernel_rfl) (by kernel_rfl) (by kernel_rfl) (fun _ _ _ h => h) (some 11) rfl (Or.inl ⟨by rfl, ?_⟩) ?_
                      rotate_left 1
                      · intro w; go_simp; try with_reducible rfl
                      simp only [Act.put, List.setIfInBounds_toArray, List.set_cons_zero, List.set_cons_succ]
                      refine take_at (i := 11) (v := ?_) rfl (by kernel_rfl) (by kernel_rfl) (by kernel_rfl) (fun _ _ _ h => h) (some 12) rfl (Or.inl ⟨by rfl, ?_⟩) ?_
                      rotate_left 1
                      · intro w; go_simp; try with_reducible rfl
                      simp only [Act.put, List.setIfInBounds_toArray, List.set_cons_zero, List.set_cons_succ]
                      refine wpAny_done (by kernel_rfl) ?_ _
                      exact HSH _ _ _ _ _ _ _ _ HX
                    exact AllReady.nil
                  exact AllReady.nil
                refine AllReady.cons rfl (fun KK hKK => ?_) ?_
                · skip
                  go_simp
                  refine hKK _ _ ?_; clear hKK KK; try simp only [Act.put, List.setIfInBounds_toArray, List.set_cons_zero, List.set_cons_succ]
                  change wpAny _ _ _ _ _ _ _ (x0.alloc (.cells tlZ 27))
                  have hal := (Below.refl x0.heap.size x0).alloc (Nat.le_refl _) (.cells tlZ 27)
                  have HBx18 := Lib.hid ((HBx0.out).trans (hal.mono (HBx0.out).size)); have HP18 := Lib.hid (Blk.new x0 27 tlZ); have HQ := Lib.hid ((HBx0.out).size)
                  clear hal
                  generalize x0.alloc (.cells tlZ 27) = x18 at *
                  obtain ⟨p, hp⟩ : ∃ p, p = x0.heap.size := ⟨_, rfl⟩
                  rw [← hp] at HP18 HQ ⊢; clear hp
                  refine wpAny_ready (rs := [1]) (by kernel_rfl) (by simp) ?_
                  refine AllReady.cons rfl (fun KK hKK => ?_) ?_
                  · skip
                    refine step_call1 (by rfl) 13 (.tmp 50) _ (by rfl) (tlV A c t) (by rfl) (fun _ _ => rfl) _ (copy_any A c t x18 ((G6.out.l).below HBx18.out) (Nat.le_trans (HN.out).1 (by decide))) (some 51) rfl ?_
                    rintro e x19 ⟨A5, c5, rfl, ho5, hb⟩
                    refine ⟨_, rfl, ?_⟩
                    have HBx19 := Lib.hid ((HBx18.out).trans (hb.mono (HBx18.out).size)); have HC19 := Lib.hid ho5.rgs
                    have HP19 := Lib.hid (HP18.out.below hb HP18.out.lt)
                    clear hb ho5; refine hKK _ _ ?_; clear hKK KK; simp only [Act.put, List.setIfInBounds_toArray, List.set_cons_zero, List.set_cons_succ]
                    refine wpAny_ready (rs := [3]) (by kernel_rfl) (by simp) ?_
                    refine AllReady.cons rfl (fun KK hKK => ?_) ?_
                    · skip
                      refine step_call2 (by rfl) 22 (.tmp 51) (.tmp 52) _ (by rfl) (tlV A5 c5 t) (cmV (skM h (keyR t.rs h) n0 (1 + z))) (by rfl) (by rfl) (fun _ _ => rfl) _ (do_as (w := x19) HC19.out (HN.out) (HMM.out.hs) ((G6.out.tb).below HBx19.out) (HMM.out.t1) (HMM.out.e1) (HMM.out.c1)) (some 53) rfl ?_
                      rintro e x20 ⟨A6, c6, B6, e6, rfl, ho6, he6, hb⟩
                      refine ⟨_, rfl, ?_⟩
                      have HBx20 := Lib.hid ((HBx19.out).trans (hb.mono (HBx19.out).size)); have HO20 := Lib.hid (Own.base ho6 (HBx19.out).size); have HE20 := Lib.hid (OwnE.base he6 (HBx19.out).size)
                      have HP20 := Lib.hid (HP19.out.below hb HP19.out.lt)
                      clear hb ho6 he6; refine hKK _ _ ?_; clear hKK KK; simp only [Act.put, List.setIfInBounds_toArray, List.set_cons_zero, List.set_cons_succ]
                      refine take_at (i := 4) (v := ?_) rfl (by kernel_rfl) (by kernel_rfl) (by kernel_rfl) (fun _ _ _ h => h) (some 49) rfl (Or.inl ⟨by rfl, ?_⟩) ?_
                      rotate_left 1
                      · intro w; go_simp; try with_reducible rfl
                      simp only [Act.put, List.setIfInBounds_toArray, List.set_cons_zero, List.set_cons_succ]
                      refine take_at (i := 5) (v := ?_) rfl (by kernel_rfl) (by kernel_rfl) (by kernel_rfl) (fun _ _ _ h => h) (some 54) rfl (Or.inl ⟨by rfl, ?_⟩) ?_
                      rotate_left 1
                      · intro w; go_simp; try with_reducible rfl
                      simp only [Act.put, List.setIfInBounds_toArray, List.set_cons_zero, List.set_cons_succ]
                      refine take_at (i := 6) (v := ?_) rfl (by kernel_rfl) (by kernel_rfl) (by kernel_rfl) (fun _ _ _ h => h) (some 55) rfl (Or.inl ⟨by rfl, ?_⟩) ?_
                      rotate_left 1
                      · intro w; go_simp; try with_reducible rfl
                      simp only [Act.put, List.setIfInBounds_toArray, List.set_cons_zero, List.set_cons_succ]
                      refine take_at (i := 7) (v := ?_) rfl (by kernel_rfl) (by kernel_rfl) (by kernel_rfl) (fun _ _ _ h => h) (some 56) rfl (Or.inl ⟨by rfl, ?_⟩) ?_
                      rotate_left 1
                      · intro w; go_simp; try with_reducible rfl
                      simp only [Act.put, List.setIfInBounds_toArray, List.set_cons_zero, List.set_cons_succ]
                      refine wpAny_ready (rs := [9]) (by kernel_rfl) (by simp) ?_
                      refine AllReady.cons rfl (fun KK hKK => ?_) AllReady.nil
                      refine step_store (by rfl) 27 (.tmp 10) (.tmp 54) (by rfl) _ (tlC A6 c6 (u)) (by rfl) (by rfl) 27 tlZ HP20.out size27 rfl (tlC_one ..) none rfl ?_
                      intro v hbk hon
                      have HX := DoBox.made (A5 := A5) (c5 := c5) HBx20.out HQ.out HP20.out HO20.out HE20.out hbk hon
                      clear hbk hon; refine hKK _ _ ?_; clear hKK KK; simp only [Act.put]
                      refine take_at (i := 10) (v := ?_) rfl (by kernel_rfl) (by kernel_rfl) (by kernel_rfl) (fun _ _ _ h => h) (some 11) rfl (Or.inl ⟨by rfl, ?_⟩) ?_
                      rotate_left 1
                      · intro w; go_simp; try with_reducible rfl
                      simp only [Act.put, List.setIfInBounds_toArray, List.set_cons_zero, List.set_cons_succ]
                      refine take_at (i := 11) (v := ?_) rfl (by kernel_rfl) (by kernel_rfl) (by kernel_rfl) (fun _ _ _ h => h) (some 12) rfl (Or.inl ⟨by rfl, ?_⟩) ?_
                      rotate_left 1
                      · intro w; go_simp; try with_reducible rfl
                      simp only [Act.put, List.setIfInBounds_toArray, List.set_cons_zero, List.set_cons_succ]
                      refine wpAny_done (by kernel_rfl) ?_ _
                      exact HSH _ _ _ _ _ _ _ _ HX
                    exact AllReady.nil
                  exact AllReady.nil
                exact AllReady.nil
              refine AllReady.cons rfl (fun KK hKK => ?_) ?_
              · skip
                go_simp
                refine hKK _ _ ?_; clear hKK KK; try simp only [Act.put, List.setIfInBounds_toArray, List.set_cons_zero, List.set_cons_succ]
                change wpAny _ _ _ _ _ _ _ (x0.alloc (.cells tlZ 27))
                have hal := (Below.refl x0.heap.size x0).alloc (Nat.le_refl _) (.cells tlZ 27)
                have HBx22 := Lib.hid ((HBx0.out).trans (hal.mono (HBx0.out).size)); have HP22 := Lib.hid (Blk.new x0 27 tlZ); have HQ := Lib.hid ((HBx0.out).size)
                clear hal
                generalize x0.alloc (.cells tlZ 27) = x22 at *
                obtain ⟨p, hp⟩ : ∃ p, p = x0.heap.size := ⟨_, rfl⟩
                rw [← hp] at HP22 HQ ⊢; clear hp
                refine wpAny_ready (rs := [1, 2]) (by kernel_rfl) (by simp) ?_
                refine AllReady.cons rfl (fun KK hKK => ?_) ?_
                · skip
                  refine step_call1 (by rfl) 13 (.tmp 50) _ (by rfl) (tlV A c t) (by rfl) (fun _ _ => rfl) _ (copy_any A c t x22 ((G6.out.l).below HBx22.out) (Nat.le_trans (HN.out).1 (by decide))) (some 51) rfl ?_
                  rintro e x23 ⟨A5, c5, rfl, ho5, hb⟩
                  refine ⟨_, rfl, ?_⟩
                  have HBx23 := Lib.hid ((HBx22.out).trans (hb.mono (HBx22.out).size)); have HC23 := Lib.hid ho5.rgs
                  have HP23 := Lib.hid (HP22.out.below hb HP22.out.lt)
                  clear hb ho5; refine hKK _ _ ?_; clear hKK KK; simp only [Act.put, List.setIfInBounds_toArray, List.set_cons_zero, List.set_cons_succ]
                  refine wpAny_ready (rs := [2]) (by kernel_rfl) (by simp) ?_
                  refine AllReady.cons rfl (fun KK hKK => ?_) ?_
                  · skip
                    refine step_load (by rfl) 37 (.tmp 9) (by rfl) pm (by rfl) 37 (cmC (skM h (keyR t.rs h) n0 (1 + z))) ((HCM.out).below HBx23.out (HCM.out).lt) _ Tryd.underlying37 rfl size37 (some 52) rfl ?_
                    refine hKK _ _ ?_; clear hKK KK; simp only [Act.put, List.setIfInBounds_toArray, List.set_cons_zero, List.set_cons_succ]
                    refine wpAny_ready (rs := [3]) (by kernel_rfl) (by simp) ?_
                    refine AllReady.cons rfl (fun KK hKK => ?_) ?_
                    · skip
                      refine step_call2 (by rfl) 22 (.tmp 51) (.tmp 52) _ (by rfl) (tlV A5 c5 t) (cmV (skM h (keyR t.rs h) n0 (1 + z))) (by rfl) (by rfl) (fun _ _ => rfl) _ (do_as (w := x23) HC23.out (HN.out) (HMM.out.hs) ((G6.out.tb).below HBx23.out) (HMM.out.t1) (HMM.out.e1) (HMM.out.c1)) (some 53) rfl ?_
                      rintro e x24 ⟨A6, c6, B6, e6, rfl, ho6, he6, hb⟩
                      refine ⟨_, rfl, ?_⟩
                      have HBx24 := Lib.hid ((HBx23.out).trans (hb.mono (HBx23.out).size)); have HO24 := Lib.hid (Own.base ho6 (HBx23.out).size); have HE24 := Lib.hid (OwnE.base he6 (HBx23.out).size)
                      have HP24 := Lib.hid (HP23.out.below hb HP23.out.lt)
                      clear hb ho6 he6; refine hKK _ _ ?_; clear hKK KK; simp only [Act.put, List.setIfInBounds_toArray, List.set_cons_zero, List.set_cons_succ]
                      refine take_at (i := 4) (v := ?_) rfl (by kernel_rfl) (by kernel_rfl) (by kernel_rfl) (fun _ _ _ h => h) (some 49) rfl (Or.inl ⟨by rfl, ?_⟩) ?_
                      rotate_left 1
                      · intro w; go_simp; try with_reducible rfl
                      simp only [Act.put, List.setIfInBounds_toArray, List.set_cons_zero, List.set_cons_succ]
                      refine take_at (i := 5) (v := ?_) rfl (by kernel_rfl) (by kernel_rfl) (by kernel_rfl) (fun _ _ _ h => h) (some 54) rfl (Or.inl ⟨by rfl, ?_⟩) ?_
                      rotate_left 1
                      · intro w; go_simp; try with_reducible rfl
                      simp only [Act.put, List.setIfInBounds_toArray, List.set_cons_zero, List.set_cons_succ]
                      refine take_at (i := 6) (v := ?_) rfl (by kernel_rfl) (by kernel_rfl) (by kernel_rfl) (fun _ _ _ h => h) (some 55) rfl (Or.inl ⟨by rfl, ?_⟩) ?_
                      rotate_left 1
                      · intro w; go_simp; try with_reducible rfl
                      simp only [Act.put, List.setIfInBounds_toArray, List.set_cons_zero, List.set_cons_succ]
                      refine take_at (i := 7) (v := ?_) rfl (by kernel_rfl) (by kernel_rfl) (by kernel_rfl) (fun _ _ _ h => h) (some 56) rfl (Or.inl ⟨by rfl, ?_⟩) ?_
                      rotate_left 1
                      · intro w; go_simp; try with_reducible rfl
                      simp only [Act.put, List.setIfInBounds_toArray, List.set_cons_zero, List.set_cons_succ]
                      refine wpAny_ready (rs := [9]) (by kernel_rfl) (by simp) ?_
                      refine AllReady.cons rfl (fun KK hKK => ?_) AllReady.nil
                      refine step_store (by rfl) 27 (.tmp 10) (.tmp 54) (by rfl) _ (tlC A6 c6 (u)) (by rfl) (by rfl) 27 tlZ HP24.out size27 rfl (tlC_one ..) none rfl ?_
                      intro v hbk hon
                      have HX := DoBox.made (A5 := A5) (c5 := c5) HBx24.out HQ.out HP24.out HO24.out HE24.out hbk hon
                      clear hbk hon; refine hKK _ _ ?_; clear hKK KK; simp only [Act.put]
                      refine take_at (i := 10) (v := ?_) rfl (by kernel_rfl) (by kernel_rfl) (by kernel_rfl) (fun _ _ _ h => h) (some 11) rfl (Or.inl ⟨by rfl, ?_⟩) ?_
                      rotate_left 1
                      · intro w; go_simp; try with_reducible rfl
                      simp only [Act.put, List.setIfInBounds_toArray, List.set_cons_zero, List.set_cons_succ]
                      refine take_at (i := 11) (v := ?_) rfl (by kernel_rfl) (by kernel_rfl) (by kernel_rfl) (fun _ _ _ h => h) (some 12) rfl (Or.inl ⟨by rfl, ?_⟩) ?_
                      rotate_left 1
                      · intro w; go_simp; try with_reducible rfl
                      simp only [Act.put, List.setIfInBounds_toArray, List.set_cons_zero, List.set_cons_succ]
                      refine wpAny_done (by kernel_rfl) ?_ _
                      exact HSH _ _ _ _ _ _ _ _ HX
                    exact AllReady.nil
                  exact AllReady.nil
                refine AllReady.cons rfl (fun KK hKK => ?_) ?_
                · skip
                  refine step_load (by rfl) 37 (.tmp 9) (by rfl) pm (by rfl) 37 (cmC (skM h (keyR t.rs h) n0 (1 + z))) ((HCM.out).below HBx22.out (HCM.out).lt) _ Tryd.underlying37 rfl size37 (some 52) rfl ?_
                  refine hKK _ _ ?_; clear hKK KK; simp only [Act.put, List.setIfInBounds_toArray, List.set_cons_zero, List.set_cons_succ]
                  refine wpAny_ready (rs := [1]) (by kernel_rfl) (by simp) ?_
                  refine AllReady.cons rfl (fun KK hKK => ?_) ?_
                  · skip
                    refine step_call1 (by rfl) 13 (.tmp 50) _ (by rfl) (tlV A c t) (by rfl) (fun _ _ => rfl) _ (copy_any A c t x22 ((G6.out.l).below HBx22.out) (Nat.le_trans (HN.out).1 (by decide))) (some 51) rfl ?_
                    rintro e x26 ⟨A5, c5, rfl, ho5, hb⟩
                    refine ⟨_, rfl, ?_⟩
                    have HBx26 := Lib.hid ((HBx22.out).trans (hb.mono (HBx22.out).size)); have HC26 := Lib.hid ho5.rgs
                    have HP26 := Lib.hid (HP22.out.below hb HP22.out.lt)
                    clear hb ho5; refine hKK _ _ ?_; clear hKK KK; simp only [Act.put, List.setIfInBounds_toArray, List.set_cons_zero, List.set_cons_succ]
                    refine wpAny_ready (rs := [3]) (by kernel_rfl) (by simp) ?_
                    refine AllReady.cons rfl (fun KK hKK => ?_) ?_
                    · skip
                      refine step_call2 (by rfl) 22 (.tmp 51) (.tmp 52) _ (by rfl) (tlV A5 c5 t) (cmV (skM h (keyR t.rs h) n0 (1 + z))) (by rfl) (by rfl) (fun _ _ => rfl) _ (do_as (w := x26) HC26.out (HN.out) (HMM.out.hs) ((G6.out.tb).below HBx26.out) (HMM.out.t1) (HMM.out.e1) (HMM.out.c1)) (some 53) rfl ?_
                      rintro e x27 ⟨A6, c6, B6, e6, rfl, ho6, he6, hb⟩
                      refine ⟨_, rfl, ?_⟩
                      have HBx27 := Lib.hid ((HBx26.out).trans (hb.mono (HBx26.out).size)); have HO27 := Lib.hid (Own.base ho6 (HBx26.out).size); have HE27 := Lib.hid (OwnE.base he6 (HBx26.out).size)
                      have HP27 := Lib.hid (HP26.out.below hb HP26.out.lt)
                      clear hb ho6 he6; refine hKK _ _ ?_; clear hKK KK; simp only [Act.put, List.setIfInBounds_toArray, List.set_cons_zero, List.set_cons_succ]
                      refine take_at (i := 4) (v := ?_) rfl (by kernel_rfl) (by kernel_rfl) (by kernel_rfl) (fun _ _ _ h => h) (some 49) rfl (Or.inl ⟨by rfl, ?_⟩) ?_
                      rotate_left 1
                      · intro w; go_simp; try with_reducible rfl
                      simp only [Act.put, List.setIfInBounds_toArray, List.set_cons_zero, List.set_cons_succ]
                      refine take_at (i := 5) (v := ?_) rfl (by kernel_rfl) (by kernel_rfl) (by kernel_rfl) (fun _ _ _ h => h) (some 54) rfl (Or.inl ⟨by rfl, ?_⟩) ?_
                      rotate_left 1
                      · intro w; go_simp; try with_reducible rfl
                      simp only [Act.put, List.setIfInBounds_toArray, List.set_cons_zero, List.set_cons_succ]
                      refine take_at (i := 6) (v := ?_) rfl (by kernel_rfl) (by kernel_rfl) (by kernel_rfl) (fun _ _ _ h => h) (some 55) rfl (Or.inl ⟨by rfl, ?_⟩) ?_
                      rotate_left 1
                      · intro w; go_simp; try with_reducible rfl
                      simp only [Act.put, List.setIfInBounds_toArray, List.set_cons_zero, List.set_cons_succ]
                      refine take_at (i := 7) (v := ?_) rfl (by kernel_rfl) (by kernel_rfl) (by kernel_rfl) (fun _ _ _ h => h) (some 56) rfl (Or.inl ⟨by rfl, ?_⟩) ?_
                      rotate_left 1
                      · intro w; go_simp; try with_reducible rfl
                      simp only [Act.put, List.setIfInBounds_toArray, List.set_cons_zero, List.set_cons_succ]
                      refine wpAny_ready (rs := [9]) (by kernel_rfl) (by simp) ?_
                      refine AllReady.cons rfl (fun KK hKK => ?_) AllReady.nil
                      refine step_store (by rfl) 27 (.tmp 10) (.tmp 54) (by rfl) _ (tlC A6 c6 (u)) (by rfl) (by rfl) 27 tlZ HP27.out size27 rfl (tlC_one ..) none rfl ?_
                      intro v hbk hon
                      have HX := DoBox.made (A5 := A5) (c5 := c5) HBx27.out HQ.out HP27.out HO27.out HE27.out hbk hon
                      clear hbk hon; refine hKK _ _ ?_; clear hKK KK; simp only [Act.put]
                      refine take_at (i := 10) (v := ?_) rfl (by kernel_rfl) (by kernel_rfl) (by kernel_rfl) (fun _ _ _ h => h) (some 11) rfl (Or.inl ⟨by rfl, ?_⟩) ?_
                      rotate_left 1
                      · intro w; go_simp; try with_reducible rfl
                      simp only [Act.put, List.setIfInBounds_toArray, List.set_cons_zero, List.set_cons_succ]
                      refine take_at (i := 11) (v := ?_) rfl (by kernel_rfl) (by kernel_rfl) (by kernel_rfl) (fun _ _ _ h => h) (some 12) rfl (Or.inl ⟨by rfl, ?_⟩) ?_
                      rotate_left 1
                      · intro w; go_simp; try with_reducible rfl
                      simp only [Act.put, List.setIfInBounds_toArray, List.set_cons_zero, List.set_cons_succ]
                      refine wpAny_done (by kernel_rfl) ?_ _
                      exact HSH _ _ _ _ _ _ _ _ HX
                    exact AllReady.nil
                  exact AllReady.nil
                exact AllReady.nil
              exact AllReady.nil
            refine AllReady.cons rfl (fun KK hKK => ?_) ?_
            · skip
              refine step_load (by rfl) 37 (.tmp 9) (by rfl) pm (by rfl) 37 (cmC (skM h (keyR t.rs h) n0 (1 + z))) ((HCM.out).below HBx0.out (HCM.out).lt) _ Tryd.underlying37 rfl size37 (some 52) rfl ?_
              refine hKK _ _ ?_; clear hKK KK; simp only [Act.put, List.setIfInBounds_toArray, List.set_cons_zero, List.set_cons_succ]
              refine wpAny_ready (rs := [0, 8]) (by kernel_rfl) (by simp) ?_
              refine AllReady.cons rfl (fun KK hKK => ?_) ?_
              · skip
                refine step_load (by rfl) 27 (.tmp 3) (by rfl) w.heap.size (by rfl) 27 (tlC A c t) ((G6.out.b).below HBx0.out (G6.out.b).lt) _ Tryd.underlying27 rfl size27 (some 50) rfl ?_
                refine hKK _ _ ?_; clear hKK KK; simp only [Act.put, List.setIfInBounds_toArray, List.set_cons_zero, List.set_cons_succ]
                refine wpAny_ready (rs := [1, 8]) (by kernel_rfl) (by simp) ?_
                refine AllReady.cons rfl (fun KK hKK => ?_) ?_
                · skip
                  refine step_call1 (by rfl) 13 (.tmp 50) _ (by rfl) (tlV A c t) (by rfl) (fun _ _ => rfl) _ (copy_any A c t x0 ((G6.out.l).below HBx0.out) (Nat.le_trans (HN.out).1 (by decide))) (some 51) rfl ?_
                  rintro e x29 ⟨A5, c5, rfl, ho5, hb⟩
                  refine ⟨_, rfl, ?_⟩
                  have HBx29 := Lib.hid ((HBx0.out).trans (hb.mono (HBx0.out).size)); have HC29 := Lib.hid ho5.rgs
                  clear hb ho5; refine hKK _ _ ?_; clear hKK KK; simp only [Act.put, List.setIfInBounds_toArray, List.set_cons_zero, List.set_cons_succ]
                  refine wpAny_ready (rs := [3, 8]) (by kernel_rfl) (by simp) ?_
                  refine AllReady.cons rfl (fun KK hKK => ?_) ?_
                  · skip
                    refine step_call2 (by rfl) 22 (.tmp 51) (.tmp 52) _ (by rfl) (tlV A5 c5 t) (cmV (skM h (keyR t.rs h) n0 (1 + z))) (by rfl) (by rfl) (fun _ _ => rfl) _ (do_as (w := x29) HC29.out (HN.out) (HMM.out.hs) ((G6.out.tb).below HBx29.out) (HMM.out.t1) (HMM.out.e1) (HMM.out.c1)) (some 53) rfl ?_
                    rintro e x30 ⟨A6, c6, B6, e6, rfl, ho6, he6, hb⟩
                    refine ⟨_, rfl, ?_⟩
                    have HBx30 := Lib.hid ((HBx29.out).trans (hb.mono (HBx29.out).size)); have HO30 := Lib.hid (Own.base ho6 (HBx29.out).size); have HE30 := Lib.hid (OwnE.base he6 (HBx29.out).size)
                    clear hb ho6 he6; refine hKK _ _ ?_; clear hKK KK; simp only [Act.put, List.setIfInBounds_toArray, List.set_cons_zero, List.set_cons_succ]
                    refine take_at (i := 4) (v := ?_) rfl (by kernel_rfl) (by kernel_rfl) (by kernel_rfl) (fun _ _ _ h => h) (some 49) rfl (Or.inl ⟨by rfl, ?_⟩) ?_
                    rotate_left 1
                    · intro w; go_simp; try with_reducible rfl
                    simp only [Act.put, List.setIfInBounds_toArray, List.set_cons_zero, List.set_cons_succ]
                    refine take_at (i := 5) (v := ?_) rfl (by kernel_rfl) (by kernel_rfl) (by kernel_rfl) (fun _ _ _ h => h) (some 54) rfl (Or.inl ⟨by rfl, ?_⟩) ?_
                    rotate_left 1
                    · intro w; go_simp; try with_reducible rfl
                    simp only [Act.put, List.setIfInBounds_toArray, List.set_cons_zero, List.set_cons_succ]
                    refine take_at (i := 6) (v := ?_) rfl (by kernel_rfl) (by kernel_rfl) (by kernel_rfl) (fun _ _ _ h => h) (some 55) rfl (Or.inl ⟨by rfl, ?_⟩) ?_
                    rotate_left 1
                    · intro w; go_simp; try with_reducible rfl
                    simp only [Act.put, List.setIfInBounds_toArray, List.set_cons_zero, List.set_cons_succ]
                    refine take_at (i := 7) (v := ?_) rfl (by kernel_rfl) (by kernel_rfl) (by kernel_rfl) (fun _ _ _ h => h) (some 56) rfl (Or.inl ⟨by rfl, ?_⟩) ?_
                    rotate_left 1
                    · intro w; go_simp; try with_reducible rfl
                    simp only [Act.put, List.setIfInBounds_toArray, List.set_cons_zero, List.set_cons_succ]
                    refine wpAny_ready (rs := [8]) (by kernel_rfl) (by simp) ?_
                    refine AllReady.cons rfl (fun KK hKK => ?_) ?_
                    · skip
                      go_simp
                      refine hKK _ _ ?_; clear hKK KK; try simp only [Act.put, List.setIfInBounds_toArray, List.set_cons_zero, List.set_cons_succ]
                      change wpAny _ _ _ _ _ _ _ (x30.alloc (.cells tlZ 27))
                      have hal := (Below.refl x30.heap.size x30).alloc (Nat.le_refl _) (.cells tlZ 27)
                      have HBx31 := Lib.hid ((HBx30.out).trans (hal.mono (HBx30.out).size)); have HP31 := Lib.hid (Blk.new x30 27 tlZ); have HQ := Lib.hid ((HBx30.out).size)
                      have HO31 := Lib.hid (HO30.out.below hal); have HE31 := Lib.hid (HE30.out.below hal)
                      clear hal
                      generalize x30.alloc (.cells tlZ 27) = x31 at *
                      obtain ⟨p, hp⟩ : ∃ p, p = x30.heap.size := ⟨_, rfl⟩
                      rw [← hp] at HP31 HQ ⊢; clear hp
                      refine wpAny_ready (rs := [9]) (by kernel_rfl) (by simp) ?_
                      refine AllReady.cons rfl (fun KK hKK => ?_) AllReady.nil
                      refine step_store (by rfl) 27 (.tmp 10) (.tmp 54) (by rfl) _ (tlC A6 c6 (u)) (by rfl) (by rfl) 27 tlZ HP31.out size27 rfl (tlC_one ..) none rfl ?_
                      intro v hbk hon
                      have HX := DoBox.made (A5 := A5) (c5 := c5) HBx31.out HQ.out HP31.out HO31.out HE31.out hbk hon
                      clear hbk hon; refine hKK _ _ ?_; clear hKK KK; simp only [Act.put]
                      refine take_at (i := 10) (v := ?_) rfl (by kernel_rfl) (by kernel_rfl) (by kernel_rfl) (fun _ _ _ h => h) (some 11) rfl (Or.inl ⟨by rfl, ?_⟩) ?_
                      rotate_left 1
                      · intro w; go_simp; try with_reducible rfl
                      simp only [Act.put, List.setIfInBounds_toArray, List.set_cons_zero, List.set_cons_succ]
                      refine take_at (i := 11) (v := ?_) rfl (by kernel_rfl) (by kernel_rfl) (by kernel_rfl) (fun _ _ _ h => h) (some 12) rfl (Or.inl ⟨by rfl, ?_⟩) ?_
                      rotate_left 1
                      · intro w; go_simp; try with_reducible rfl
                      simp only [Act.put, List.setIfInBounds_toArray, List.set_cons_zero, List.set_cons_succ]
                      refine wpAny_done (by kernel_rfl) ?_ _
                      exact HSH _ _ _ _ _ _ _ _ HX
                    exact AllReady.nil
                  refine AllReady.cons rfl (fun KK hKK => ?_) ?_
                  · skip
                    go_simp
                    refine hKK _ _ ?_; clear hKK KK; try simp only [Act.put, List.setIfInBounds_toArray, List.set_cons_zero, List.set_cons_succ]
                    change wpAny _ _ _ _ _ _ _ (x29.alloc (.cells tlZ 27))
                    have hal := (Below.refl x29.heap.size x29).alloc (Nat.le_refl _) (.cells tlZ 27)
                    have HBx33 := Lib.hid ((HBx29.out).trans (hal.mono (HBx29.out).size)); have HP33 := Lib.hid (Blk.new x29 27 tlZ); have HQ := Lib.hid ((HBx29.out).size)
                    have HC33 := Lib.hid (HC29.out.below hal)
                    clear hal
                    generalize x29.alloc (.cells tlZ 27) = x33 at *
                    obtain ⟨p, hp⟩ : ∃ p, p = x29.heap.size := ⟨_, rfl⟩
                    rw [← hp] at HP33 HQ ⊢; clear hp
                    refine wpAny_ready (rs := [3]) (by kernel_rfl) (by simp) ?_
                    refine AllReady.cons rfl (fun KK hKK => ?_) ?_
                    · skip
                      refine step_call2 (by rfl) 22 (.tmp 51) (.tmp 52) _ (by rfl) (tlV A5 c5 t) (cmV (skM h (keyR t.rs h) n0 (1 + z))) (by rfl) (by rfl) (fun _ _ => rfl) _ (do_as (w := x33) HC33.out (HN.out) (HMM.out.hs) ((G6.out.tb).below HBx33.out) (HMM.out.t1) (HMM.out.e1) (HMM.out.c1)) (some 53) rfl ?_
                      rintro e x34 ⟨A6, c6, B6, e6, rfl, ho6, he6, hb⟩
                      refine ⟨_, rfl, ?_⟩
                      have HBx34 := Lib.hid ((HBx33.out).trans (hb.mono (HBx33.out).size)); have HO34 := Lib.hid (Own.base ho6 (HBx33.out).size); have HE34 := Lib.hid (OwnE.base he6 (HBx33.out).size)
                      have HP34 := Lib.hid (HP33.out.below hb HP33.out.lt)
                      clear hb ho6 he6; refine hKK _ _ ?_; clear hKK KK; simp only [Act.put, List.setIfInBounds_toArray, List.set_cons_zero, List.set_cons_succ]
                      refine take_at (i := 4) (v := ?_) rfl (by kernel_rfl) (by kernel_rfl) (by kernel_rfl) (fun _ _ _ h => h) (some 49) rfl (Or.inl ⟨by rfl, ?_⟩) ?_
                      rotate_left 1
                      · intro w; go_simp; try with_reducible rfl
                      simp only [Act.put, List.setIfInBounds_toArray, List.set_cons_zero, List.set_cons_succ]
                      refine take_at (i := 5) (v := ?_) rfl (by kernel_rfl) (by kernel_rfl) (by kernel_rfl) (fun _ _ _ h => h) (some 54) rfl (Or.inl ⟨by rfl, ?_⟩) ?_
                      rotate_left 1
                      · intro w; go_simp; try with_reducible rfl
                      simp only [Act.put, List.setIfInBounds_toArray, List.set_cons_zero, List.set_cons_succ]
                      refine take_at (i := 6) (v := ?_) rfl (by kernel_rfl) (by kernel_rfl) (by kernel_rfl) (fun _ _ _ h => h) (some 55) rfl (Or.inl ⟨by rfl, ?_⟩) ?_
                      rotate_left 1
                      · intro w; go_simp; try with_reducible rfl
                      simp only [Act.put, List.setIfInBounds_toArray, List.set_cons_zero, List.set_cons_succ]
                      refine take_at (i := 7) (v := ?_) rfl (by kernel_rfl) (by kernel_rfl) (by kernel_rfl) (fun _ _ _ h => h) (some 56) rfl (Or.inl ⟨by rfl, ?_⟩) ?_
                      rotate_left 1
                      · intro w; go_simp; try with_reducible rfl
                      simp only [Act.put, List.setIfInBounds_toArray, List.set_cons_zero, List.set_cons_succ]
                      refine wpAny_ready (rs := [9]) (by kernel_rfl) (by simp) ?_
                      refine AllReady.cons rfl (fun KK hKK => ?_) AllReady.nil
                      refine step_store (by rfl) 27 (.tmp 10) (.tmp 54) (by rfl) _ (tlC A6 c6 (u)) (by rfl) (by rfl) 27 tlZ HP34.out size27 rfl (tlC_one ..) none rfl ?_
                      intro v hbk hon
                      have HX := DoBox.made (A5 := A5) (c5 := c5) HBx34.out HQ.out HP34.out HO34.out HE34.out hbk hon
                      clear hbk hon; refine hKK _ _ ?_; clear hKK KK; simp only [Act.put]
                      refine take_at (i := 10) (v := ?_) rfl (by kernel_rfl) (by kernel_rfl) (by kernel_rfl) (fun _ _ _ h => h) (some 11) rfl (Or.inl ⟨by rfl, ?_⟩) ?_
                      rotate_left 1
                      · intro w; go_simp; try with_reducible rfl
                      simp only [Act.put, List.setIfInBounds_toArray, List.set_cons_zero, List.set_cons_succ]
                      refine take_at (i := 11) (v := ?_) rfl (by kernel_rfl) (by kernel_rfl) (by kernel_rfl) (fun _ _ _ h => h) (some 12) rfl (Or.inl ⟨by rfl, ?_⟩) ?_
                      rotate_left 1
                      · intro w; go_simp; try with_reducible rfl
                      simp only [Act.put, List.setIfInBounds_toArray, List.set_cons_zero, List.set_cons_succ]
                      refine wpAny_done (by kernel_rfl) ?_ _
                      exact HSH _ _ _ _ _ _ _ _ HX
                    exact AllReady.nil
                  exact AllReady.nil
                refine AllReady.cons rfl (fun KK hKK => ?_) ?_
                · skip
                  go_simp
                  refine hKK _ _ ?_; clear hKK KK; try simp only [Act.put, List.setIfInBounds_toArray, List.set_cons_zero, List.set_cons_succ]
                  change wpAny _ _ _ _ _ _ _ (x0.alloc (.cells tlZ 27))
                  have hal := (Below.refl x0.heap.size x0).alloc (Nat.le_refl _) (.cells tlZ 27)
                  have HBx36 := Lib.hid ((HBx0.out).trans (hal.mono (HBx0.out).size)); have HP36 := Lib.hid (Blk.new x0 27 tlZ); have HQ := Lib.hid ((HBx0.out).size)
                  clear hal
                  generalize x0.alloc (.cells tlZ 27) = x36 at *
                  obtain ⟨p, hp⟩ : ∃ p, p = x0.heap.size := ⟨_, rfl⟩
                  rw [← hp] at HP36 HQ ⊢; clear hp
                  refine wpAny_ready (rs := [1]) (by kernel_rfl) (by simp) ?_
                  refine AllReady.cons rfl (fun KK hKK => ?_) ?_
                  · skip
                    refine step_call1 (by rfl) 13 (.tmp 50) _ (by rfl) (tlV A c t) (by rfl) (fun _ _ => rfl) _ (copy_any A c t x36 ((G6.out.l).below HBx36.out) (Nat.le_trans (HN.out).1 (by decide))) (some 51) rfl ?_
                    rintro e x37 ⟨A5, c5, rfl, ho5, hb⟩
                    refine ⟨_, rfl, ?_⟩
                    have HBx37 := Lib.hid ((HBx36.out).trans (hb.mono (HBx36.out).size)); have HC37 := Lib.hid ho5.rgs
                    have HP37 := Lib.hid (HP36.out.below hb HP36.out.lt)
                    clear hb ho5; refine hKK _ _ ?_; clear hKK KK; simp only [Act.put, List.setIfInBounds_toArray, List.set_cons_zero, List.set_cons_succ]
                    refine wpAny_ready (rs := [3]) (by kernel_rfl) (by simp) ?_
                    refine AllReady.cons rfl (fun KK hKK => ?_) ?_
                    · skip
                      refine step_call2 (by rfl) 22 (.tmp 51) (.tmp 52) _ (by rfl) (tlV A5 c5 t) (cmV (skM h (keyR t.rs h) n0 (1 + z))) (by rfl) (by rfl) (fun _ _ => rfl) _ (do_as (w := x37) HC37.out (HN.out) (HMM.out.hs) ((G6.out.tb).below HBx37.out) (HMM.out.t1) (HMM.out.e1) (HMM.out.c1)) (some 53) rfl ?_
                      rintro e x38 ⟨A6, c6, B6, e6, rfl, ho6, he6, hb⟩
                      refine ⟨_, rfl, ?_⟩
                      have HBx38 := Lib.hid ((HBx37.out).trans (hb.mono (HBx37.out).size)); have HO38 := Lib.hid (Own.base ho6 (HBx37.out).size); have HE38 := Lib.hid (OwnE.base he6 (HBx37.out).size)
                      have HP38 := Lib.hid (HP37.out.below hb HP37.out.lt)
                      clear hb ho6 he6; refine hKK _ _ ?_; clear hKK KK; simp only [Act.put, List.setIfInBounds_toArray, List.set_cons_zero, List.set_cons_succ]
                      refine take_at (i := 4) (v := ?_) rfl (by kernel_rfl) (by kernel_rfl) (by kernel_rfl) (fun _ _ _ h => h) (some 49) rfl (Or.inl ⟨by rfl, ?_⟩) ?_
                      rotate_left 1
                      · intro w; go_simp; try with_reducible rfl
                      simp only [Act.put, List.setIfInBounds_toArray, List.set_cons_zero, List.set_cons_succ]
                      refine take_at (i := 5) (v := ?_) rfl (by kernel_rfl) (by kernel_rfl) (by kernel_rfl) (fun _ _ _ h => h) (some 54) rfl (Or.inl ⟨by rfl, ?_⟩) ?_
                      rotate_left 1
                      · intro w; go_simp; try with_reducible rfl
                      simp only [Act.put, List.setIfInBounds_toArray, List.set_cons_zero, List.set_cons_succ]
                      refine take_at (i := 6) (v := ?_) rfl (by kernel_rfl) (by kernel_rfl) (by kernel_rfl) (fun _ _ _ h => h) (some 55) rfl (Or.inl ⟨by rfl, ?_⟩) ?_
                      rotate_left 1
                      · intro w; go_simp; try with_reducible rfl
                      simp only [Act.put, List.setIfInBounds_toArray, List.set_cons_zero, List.set_cons_succ]
                      refine take_at (i := 7) (v := ?_) rfl (by kernel_rfl) (by kernel_rfl) (by kernel_rfl) (fun _ _ _ h => h) (some 56) rfl (Or.inl ⟨by rfl, ?_⟩) ?_
                      rotate_left 1
                      · intro w; go_simp; try with_reducible rfl
                      simp only [Act.put, List.setIfInBounds_toArray, List.set_cons_zero, List.set_cons_succ]
                      refine wpAny_ready (rs := [9]) (by kernel_rfl) (by simp) ?_
                      refine AllReady.cons rfl (fun KK hKK => ?_) AllReady.nil
                      refine step_store (by rfl) 27 (.tmp 10) (.tmp 54) (by rfl) _ (tlC A6 c6 (u)) (by rfl) (by rfl) 27 tlZ HP38.out size27 rfl (tlC_one ..) none rfl ?_
                      intro v hbk hon
                      have HX := DoBox.made (A5 := A5) (c5 := c5) HBx38.out HQ.out HP38.out HO38.out HE38.out hbk hon
                      clear hbk hon; refine hKK _ _ ?_; clear hKK KK; simp only [Act.put]
                      refine take_at (i := 10) (v := ?_) rfl (by kernel_rfl) (by kernel_rfl) (by kernel_rfl) (fun _ _ _ h => h) (some 11) rfl (Or.inl ⟨by rfl, ?_⟩) ?_
                      rotate_left 1
                      · intro w; go_simp; try with_reducible rfl
                      simp only [Act.put, List.setIfInBounds_toArray, List.set_cons_zero, List.set_cons_succ]
                      refine take_at (i := 11) (v := ?_) rfl (by kernel_rfl) (by kernel_rfl) (by kernel_rfl) (fun _ _ _ h => h) (some 12) rfl (Or.inl ⟨by rfl, ?_⟩) ?_
                      rotate_left 1
                      · intro w; go_simp; try with_reducible rfl
                      simp only [Act.put, List.setIfInBounds_toArray, List.set_cons_zero, List.set_cons_succ]
                      refine wpAny_done (by kernel_rfl) ?_ _
                      exact HSH _ _ _ _ _ _ _ _ HX
                    exact AllReady.nil
                  exact AllReady.nil
                exact AllReady.nil
              refine AllReady.cons rfl (fun KK hKK => ?_) ?_
              · skip
                go_simp
                refine hKK _ _ ?_; clear hKK KK; try simp only [Act.put, List.setIfInBounds_toArray, List.set_cons_zero, List.set_cons_succ]
                change wpAny _ _ _ _ _ _ _ (x0.alloc (.cells tlZ 27))
                have hal := (Below.refl x0.heap.size x0).alloc (Nat.le_refl _) (.cells tlZ 27)
                have HBx40 := Lib.hid ((HBx0.out).trans (hal.mono (HBx0.out).size)); have HP40 := Lib.hid (Blk.new x0 27 tlZ); have HQ := Lib.hid ((HBx0.out).size)
                clear hal
                generalize x0.alloc (.cells tlZ 27) = x40 at *
                obtain ⟨p, hp⟩ : ∃ p, p = x0.heap.size := ⟨_, rfl⟩
                rw [← hp] at HP40 HQ ⊢; clear hp
                refine wpAny_ready (rs := [0]) (by kernel_rfl) (by simp) ?_
                refine AllReady.cons rfl (fun KK hKK => ?_) ?_
                · skip
                  refine step_load (by rfl) 27 (.tmp 3) (by rfl) w.heap.size (by rfl) 27 (tlC A c t) ((G6.out.b).below HBx40.out (G6.out.b).lt) _ Tryd.underlying27 rfl size27 (some 50) rfl ?_
                  refine hKK _ _ ?_; clear hKK KK; simp only [Act.put, List.setIfInBounds_toArray, List.set_cons_zero, List.set_cons_succ]
                  refine wpAny_ready (rs := [1]) (by kernel_rfl) (by simp) ?_
                  refine AllReady.cons rfl (fun KK hKK => ?_) ?_
                  · skip
                    refine step_call1 (by rfl) 13 (.tmp 50) _ (by rfl) (tlV A c t) (by rfl) (fun _ _ => rfl) _ (copy_any A c t x40 ((G6.out.l).below HBx40.out) (Nat.le_trans (HN.out).1 (by decide))) (some 51) rfl ?_
                    rintro e x41 ⟨A5, c5, rfl, ho5, hb⟩
                    refine ⟨_, rfl, ?_⟩
                    have HBx41 := Lib.hid ((HBx40.out).trans (hb.mono (HBx40.out).size)); have HC41 := Lib.hid ho5.rgs
                    have HP41 := Lib.hid (HP40.out.below hb HP40.out.lt)
                    clear hb ho5; refine hKK _ _ ?_; clear hKK KK; simp only [Act.put, List.setIfInBounds_toArray, List.set_cons_zero, List.set_cons_succ]
                    refine wpAny_ready (rs := [3]) (by kernel_rfl) (by simp) ?_
                    refine AllReady.cons rfl (fun KK hKK => ?_) ?_
                    · skip
                      refine step_call2 (by rfl) 22 (.tmp 51) (.tmp 52) _ (by rfl) (tlV A5 c5 t) (cmV (skM h (keyR t.rs h) n0 (1 + z))) (by rfl) (by rfl) (fun _ _ => rfl) _ (do_as (w := x41) HC41.out (HN.out) (HMM.out.hs) ((G6.out.tb).below HBx41.out) (HMM.out.t1) (HMM.out.e1) (HMM.out.c1)) (some 53) rfl ?_
                      rintro e x42 ⟨A6, c6, B6, e6, rfl, ho6, he6, hb⟩
                      refine ⟨_, rfl, ?_⟩
                      have HBx42 := Lib.hid ((HBx41.out).trans (hb.mono (HBx41.out).size)); have HO42 := Lib.hid (Own.base ho6 (HBx41.out).size); have HE42 := Lib.hid (OwnE.base he6 (HBx41.out).size)
                      have HP42 := Lib.hid (HP41.out.below hb HP41.out.lt)
                      clear hb ho6 he6; refine hKK _ _ ?_; clear hKK KK; simp only [Act.put, List.setIfInBounds_toArray, List.set_cons_zero, List.set_cons_succ]
                      refine take_at (i := 4) (v := ?_) rfl (by kernel_rfl) (by kernel_rfl) (by kernel_rfl) (fun _ _ _ h => h) (some 49) rfl (Or.inl ⟨by rfl, ?_⟩) ?_
                      rotate_left 1
                      · intro w; go_simp; try with_reducible rfl
                      simp only [Act.put, List.setIfInBounds_toArray, List.set_cons_zero, List.set_cons_succ]
                      refine take_at (i := 5) (v := ?_) rfl (by kernel_rfl) (by kernel_rfl) (by kernel_rfl) (fun _ _ _ h => h) (some 54) rfl (Or.inl ⟨by rfl, ?_⟩) ?_
                      rotate_left 1
                      · intro w; go_simp; try with_reducible rfl
                      simp only [Act.put, List.setIfInBounds_toArray, List.set_cons_zero, List.set_cons_succ]
                      refine take_at (i := 6) (v := ?_) rfl (by kernel_rfl) (by kernel_rfl) (by kernel_rfl) (fun _ _ _ h => h) (some 55) rfl (Or.inl ⟨by rfl, ?_⟩) ?_
                      rotate_left 1
                      · intro w; go_simp; try with_reducible rfl
                      simp only [Act.put, List.setIfInBounds_toArray, List.set_cons_zero, List.set_cons_succ]
                      refine take_at (i := 7) (v := ?_) rfl (by kernel_rfl) (by kernel_rfl) (by kernel_rfl) (fun _ _ _ h => h) (some 56) rfl (Or.inl ⟨by rfl, ?_⟩) ?_
                      rotate_left 1
                      · intro w; go_simp; try with_reducible rfl
                      simp only [Act.put, List.setIfInBounds_toArray, List.set_cons_zero, List.set_cons_succ]
                      refine wpAny_ready (rs := [9]) (by kernel_rfl) (by simp) ?_
                      refine AllReady.cons rfl (fun KK hKK => ?_) AllReady.nil
                      refine step_store (by rfl) 27 (.tmp 10) (.tmp 54) (by rfl) _ (tlC A6 c6 (u)) (by rfl) (by rfl) 27 tlZ HP42.out size27 rfl (tlC_one ..) none rfl ?_
                      intro v hbk hon
                      have HX := DoBox.made (A5 := A5) (c5 := c5) HBx42.out HQ.out HP42.out HO42.out HE42.out hbk hon
                      clear hbk hon; refine hKK _ _ ?_; clear hKK KK; simp only [Act.put]
                      refine take_at (i := 10) (v := ?_) rfl (by kernel_rfl) (by kernel_rfl) (by kernel_rfl) (fun _ _ _ h => h) (some 11) rfl (Or.inl ⟨by rfl, ?_⟩) ?_
                      rotate_left 1
                      · intro w; go_simp; try with_reducible rfl
                      simp only [Act.put, List.setIfInBounds_toArray, List.set_cons_zero, List.set_cons_succ]
                      refine take_at (i := 11) (v := ?_) rfl (by kernel_rfl) (by kernel_rfl) (by kernel_rfl) (fun _ _ _ h => h) (some 12) rfl (Or.inl ⟨by rfl, ?_⟩) ?_
                      rotate_left 1
                      · intro w; go_simp; try with_reducible rfl
                      simp only [Act.put, List.setIfInBounds_toArray, List.set_cons_zero, List.set_cons_succ]
                      refine wpAny_done (by kernel_rfl) ?_ _
                      exact HSH _ _ _ _ _ _ _ _ HX
                    exact AllReady.nil
                  exact AllReady.nil
                exact AllReady.nil
              exact AllReady.nil
            refine AllReady.cons rfl (fun KK hKK => ?_) ?_
            · skip
              go_simp
              refine hKK _ _ ?_; clear hKK KK; try simp only [Act.put, List.setIfInBounds_toArray, List.set_cons_zero, List.set_cons_succ]
              change wpAny _ _ _ _ _ _ _ (x0.alloc (.cells tlZ 27))
              have hal := (Below.refl x0.heap.size x0).alloc (Nat.le_refl _) (.cells tlZ 27)
              have HBx44 := Lib.hid ((HBx0.out).trans (hal.mono (HBx0.out).size)); have HP44 := Lib.hid (Blk.new x0 27 tlZ); have HQ := Lib.hid ((HBx0.out).size)
              clear hal
              generalize x0.alloc (.cells tlZ 27) = x44 at *
              obtain ⟨p, hp⟩ : ∃ p, p = x0.heap.size := ⟨_, rfl⟩
              rw [← hp] at HP44 HQ ⊢; clear hp
              refine wpAny_ready (rs := [0, 2]) (by kernel_rfl) (by simp) ?_
              refine AllReady.cons rfl (fun KK hKK => ?_) ?_
              · skip
                refine step_load (by rfl) 27 (.tmp 3) (by rfl) w.heap.size (by rfl) 27 (tlC A c t) ((G6.out.b).below HBx44.out (G6.out.b).lt) _ Tryd.underlying27 rfl size27 (some 50) rfl ?_
                refine hKK _ _ ?_; clear hKK KK; simp only [Act.put, List.setIfInBounds_toArray, List.set_cons_zero, List.set_cons_succ]
                refine wpAny_ready (rs := [1, 2]) (by kernel_rfl) (by simp) ?_
                refine AllReady.cons rfl (fun KK hKK => ?_) ?_
                · skip
                  refine step_call1 (by rfl) 13 (.tmp 50) _ (by rfl) (tlV A c t) (by rfl) (fun _ _ => rfl) _ (copy_any A c t x44 ((G6.out.l).below HBx44.out) (Nat.le_trans (HN.out).1 (by decide))) (some 51) rfl ?_
                  rintro e x45 ⟨A5, c5, rfl, ho5, hb⟩
                  refine ⟨_, rfl, ?_⟩
                  have HBx45 := Lib.hid ((HBx44.out).trans (hb.mono (HBx44.out).size)); have HC45 := Lib.hid ho5.rgs
                  have HP45 := Lib.hid (HP44.out.below hb HP44.out.lt)
                  clear hb ho5; refine hKK _ _ ?_; clear hKK KK; simp only [Act.put, List.setIfInBounds_toArray, List.set_cons_zero, List.set_cons_succ]
                  refine wpAny_ready (rs := [2]) (by kernel_rfl) (by simp) ?_
                  refine AllReady.cons rfl (fun KK hKK => ?_) ?_
                  · skip
                    refine step_load (by rfl) 37 (.tmp 9) (by rfl) pm (by rfl) 37 (cmC (skM h (keyR t.rs h) n0 (1 + z))) ((HCM.out).below HBx45.out (HCM.out).lt) _ Tryd.underlying37 rfl size37 (some 52) rfl ?_
                    refine hKK _ _ ?_; clear hKK KK; simp only [Act.put, List.setIfInBounds_toArray, List.set_cons_zero, List.set_cons_succ]
                    refine wpAny_ready (rs := [3]) (by kernel_rfl) (by simp) ?_
                    refine AllReady.cons rfl (fun KK hKK => ?_) ?_
                    · skip
                      refine step_call2 (by rfl) 22 (.tmp 51) (.tmp 52) _ (by rfl) (tlV A5 c5 t) (cmV (skM h (keyR t.rs h) n0 (1 + z))) (by rfl) (by rfl) (fun _ _ => rfl) _ (do_as (w := x45) HC45.out (HN.out) (HMM.out.hs) ((G6.out.tb).below HBx45.out) (HMM.out.t1) (HMM.out.e1) (HMM.out.c1)) (some 53) rfl ?_
                      rintro e x46 ⟨A6, c6, B6, e6, rfl, ho6, he6, hb⟩
                      refine ⟨_, rfl, ?_⟩
                      have HBx46 := Lib.hid ((HBx45.out).trans (hb.mono (HBx45.out).size)); have HO46 := Lib.hid (Own.base ho6 (HBx45.out).size); have HE46 := Lib.hid (OwnE.base he6 (HBx45.out).size)
                      have HP46 := Lib.hid (HP45.out.below hb HP45.out.lt)
                      clear hb ho6 he6; refine hKK _ _ ?_; clear hKK KK; simp only [Act.put, List.setIfInBounds_toArray, List.set_cons_zero, List.set_cons_succ]
                      refine take_at (i := 4) (v := ?_) rfl (by kernel_rfl) (by kernel_rfl) (by kernel_rfl) (fun _ _ _ h => h) (some 49) rfl (Or.inl ⟨by rfl, ?_⟩) ?_
                      rotate_left 1
                      · intro w; go_simp; try with_reducible rfl
                      simp only [Act.put, List.setIfInBounds_toArray, List.set_cons_zero, List.set_cons_succ]
                      refine take_at (i := 5) (v := ?_) rfl (by kernel_rfl) (by kernel_rfl) (by kernel_rfl) (fun _ _ _ h => h) (some 54) rfl (Or.inl ⟨by rfl, ?_⟩) ?_
                      rotate_left 1
                      · intro w; go_simp; try with_reducible rfl
                      simp only [Act.put, List.setIfInBounds_toArray, List.set_cons_zero, List.set_cons_succ]
                      refine take_at (i := 6) (v := ?_) rfl (by kernel_rfl) (by kernel_rfl) (by kernel_rfl) (fun _ _ _ h => h) (some 55) rfl (Or.inl ⟨by rfl, ?_⟩) ?_
                      rotate_left 1
                      · intro w; go_simp; try with_reducible rfl
                      simp only [Act.put, List.setIfInBounds_toArray, List.set_cons_zero, List.set_cons_succ]
                      refine take_at (i := 7) (v := ?_) rfl (by kernel_rfl) (by kernel_rfl) (by kernel_rfl) (fun _ _ _ h => h) (some 56) rfl (Or.inl ⟨by rfl, ?_⟩) ?_
                      rotate_left 1
                      · intro w; go_simp; try with_reducible rfl
                      simp only [Act.put, List.setIfInBounds_toArray, List.set_cons_zero, List.set_cons_succ]
                      refine wpAny_ready (rs := [9]) (by kernel_rfl) (by simp) ?_
                      refine AllReady.cons rfl (fun KK hKK => ?_) AllReady.nil
                      refine step_store (by rfl) 27 (.tmp 10) (.tmp 54) (by rfl) _ (tlC A6 c6 (u)) (by rfl) (by rfl) 27 tlZ HP46.out size27 rfl (tlC_one ..) none rfl ?_
                      intro v hbk hon
                      have HX := DoBox.made (A5 := A5) (c5 := c5) HBx46.out HQ.out HP46.out HO46.out HE46.out hbk hon
                      clear hbk hon; refine hKK _ _ ?_; clear hKK KK; simp only [Act.put]
                      refine take_at (i := 10) (v := ?_) rfl (by kernel_rfl) (by kernel_rfl) (by kernel_rfl) (fun _ _ _ h => h) (some 11) rfl (Or.inl ⟨by rfl, ?_⟩) ?_
                      rotate_left 1
                      · intro w; go_simp; try with_reducible rfl
                      simp only [Act.put, List.setIfInBounds_toArray, List.set_cons_zero, List.set_cons_succ]
                      refine take_at (i := 11) (v := ?_) rfl (by kernel_rfl) (by kernel_rfl) (by kernel_rfl) (fun _ _ _ h => h) (some 12) rfl (Or.inl ⟨by rfl, ?_⟩) ?_
                      rotate_left 1
                      · intro w; go_simp; try with_reducible rfl
                      simp only [Act.put, List.setIfInBounds_toArray, List.set_cons_zero, List.set_cons_succ]
                      refine wpAny_done (by kernel_rfl) ?_ _
                      exact HSH _ _ _ _ _ _ _ _ HX
                    exact AllReady.nil
                  exact AllReady.nil
                refine AllReady.cons rfl (fun KK hKK => ?_) ?_
                · skip
                  refine step_load (by rfl) 37 (.tmp 9) (by rfl) pm (by rfl) 37 (cmC (skM h (keyR t.rs h) n0 (1 + z))) ((HCM.out).below HBx44.out (HCM.out).lt) _ Tryd.underlying37 rfl size37 (some 52) rfl ?_
                  refine hKK _ _ ?_; clear hKK KK; simp only [Act.put, List.setIfInBounds_toArray, List.set_cons_zero, List.set_cons_succ]
                  refine wpAny_ready (rs := [1]) (by kernel_rfl) (by simp) ?_
                  refine AllReady.cons rfl (fun KK hKK => ?_) ?_
                  · skip
                    refine step_call1 (by rfl) 13 (.tmp 50) _ (by rfl) (tlV A c t) (by rfl) (fun _ _ => rfl) _ (copy_any A c t x44 ((G6.out.l).below HBx44.out) (Nat.le_trans (HN.out).1 (by decide))) (some 51) rfl ?_
                    rintro e x48 ⟨A5, c5, rfl, ho5, hb⟩
                    refine ⟨_, rfl, ?_⟩
                    have HBx48 := Lib.hid ((HBx44.out).trans (hb.mono (HBx44.out).size)); have HC48 := Lib.hid ho5.rgs
                    have HP48 := Lib.hid (HP44.out.below hb HP44.out.lt)
                    clear hb ho5; refine hKK _ _ ?_; clear hKK KK; simp only [Act.put, List.setIfInBounds_toArray, List.set_cons_zero, List.set_cons_succ]
                    refine wpAny_ready (rs := [3]) (by kernel_rfl) (by simp) ?_
                    refine AllReady.cons rfl (fun KK hKK => ?_) ?_
                    · skip
                      refine step_call2 (by rfl) 22 (.tmp 51) (.tmp 52) _ (by rfl) (tlV A5 c5 t) (cmV (skM h (keyR t.rs h) n0 (1 + z))) (by rfl) (by rfl) (fun _ _ => rfl) _ (do_as (w := x48) HC48.out (HN.out) (HMM.out.hs) ((G6.out.tb).below HBx48.out) (HMM.out.t1) (HMM.out.e1) (HMM.out.c1)) (some 53) rfl ?_
                      rintro e x49 ⟨A6, c6, B6, e6, rfl, ho6, he6, hb⟩
                      refine ⟨_, rfl, ?_⟩
                      have HBx49 := Lib.hid ((HBx48.out).trans (hb.mono (HBx48.out).size)); have HO49 := Lib.hid (Own.base ho6 (HBx48.out).size); have HE49 := Lib.hid (OwnE.base he6 (HBx48.out).size)
                      have HP49 := Lib.hid (HP48.out.below hb HP48.out.lt)
                      clear hb ho6 he6; refine hKK _ _ ?_; clear hKK KK; simp only [Act.put, List.setIfInBounds_toArray, List.set_cons_zero, List.set_cons_succ]
                      refine take_at (i := 4) (v := ?_) rfl (by kernel_rfl) (by kernel_rfl) (by kernel_rfl) (fun _ _ _ h => h) (some 49) rfl (Or.inl ⟨by rfl, ?_⟩) ?_
                      rotate_left 1
                      · intro w; go_simp; try with_reducible rfl
                      simp only [Act.put, List.setIfInBounds_toArray, List.set_cons_zero, List.set_cons_succ]
                      refine take_at (i := 5) (v := ?_) rfl (by kernel_rfl) (by kernel_rfl) (by kernel_rfl) (fun _ _ _ h => h) (some 54) rfl (Or.inl ⟨by rfl, ?_⟩) ?_
                      rotate_left 1
                      · intro w; go_simp; try with_reducible rfl
                      simp only [Act.put, List.setIfInBounds_toArray, List.set_cons_zero, List.set_cons_succ]
                      refine take_at (i := 6) (v := ?_) rfl (by kernel_rfl) (by kernel_rfl) (by kernel_rfl) (fun _ _ _ h => h) (some 55) rfl (Or.inl ⟨by rfl, ?_⟩) ?_
                      rotate_left 1
                      · intro w; go_simp; try with_reducible rfl
                      simp only [Act.put, List.setIfInBounds_toArray, List.set_cons_zero, List.set_cons_succ]
                      refine take_at (i := 7) (v := ?_) rfl (by kernel_rfl) (by kernel_rfl) (by kernel_rfl) (fun _ _ _ h => h) (some 56) rfl (Or.inl ⟨by rfl, ?_⟩) ?_
                      rotate_left 1
                      · intro w; go_simp; try with_reducible rfl
                      simp only [Act.put, List.setIfInBounds_toArray, List.set_cons_zero, List.set_cons_succ]
                      refine wpAny_ready (rs := [9]) (by kernel_rfl) (by simp) ?_
                      refine AllReady.cons rfl (fun KK hKK => ?_) AllReady.nil
                      refine step_store (by rfl) 27 (.tmp 10) (.tmp 54) (by rfl) _ (tlC A6 c6 (u)) (by rfl) (by rfl) 27 tlZ HP49.out size27 rfl (tlC_one ..) none rfl ?_
                      intro v hbk hon
                      have HX := DoBox.made (A5 := A5) (c5 := c5) HBx49.out HQ.out HP49.out HO49.out HE49.out hbk hon
                      clear hbk hon; refine hKK _ _ ?_; clear hKK KK; simp only [Act.put]
                      refine take_at (i := 10) (v := ?_) rfl (by kernel_rfl) (by kernel_rfl) (by kernel_rfl) (fun _ _ _ h => h) (some 11) rfl (Or.inl ⟨by rfl, ?_⟩) ?_
                      rotate_left 1
                      · intro w; go_simp; try with_reducible rfl
                      simp only [Act.put, List.setIfInBounds_toArray, List.set_cons_zero, List.set_cons_succ]
                      refine take_at (i := 11) (v := ?_) rfl (by kernel_rfl) (by kernel_rfl) (by kernel_rfl) (fun _ _ _ h => h) (some 12) rfl (Or.inl ⟨by rfl, ?_⟩) ?_
                      rotate_left 1
                      · intro w; go_simp; try with_reducible rfl
                      simp only [Act.put, List.setIfInBounds_toArray, List.set_cons_zero, List.set_cons_succ]
                      refine wpAny_done (by kernel_rfl) ?_ _
                      exact HSH _ _ _ _ _ _ _ _ HX
                    exact AllReady.nil
                  exact AllReady.nil
                exact AllReady.nil
              refine AllReady.cons rfl (fun KK hKK => ?_) ?_
              · skip
                refine step_load (by rfl) 37 (.tmp 9) (by rfl) pm (by rfl) 37 (cmC (skM h (keyR t.rs h) n0 (1 + z))) ((HCM.out).below HBx44.out (HCM.out).lt) _ Tryd.underlying37 rfl size37 (some 52) rfl ?_
                refine hKK _ _ ?_; clear hKK KK; simp only [Act.put, List.setIfInBounds_toArray, List.set_cons_zero, List.set_cons_succ]
                refine wpAny_ready (rs := [0]) (by kernel_rfl) (by simp) ?_
                refine AllReady.cons rfl (fun KK hKK => ?_) ?_
                · skip
                  refine step_load (by rfl) 27 (.tmp 3) (by rfl) w.heap.size (by rfl) 27 (tlC A c t) ((G6.out.b).below HBx44.out (G6.out.b).lt) _ Tryd.underlying27 rfl size27 (some 50) rfl ?_
                  refine hKK _ _ ?_; clear hKK KK; simp only [Act.put, List.setIfInBounds_toArray, List.set_cons_zero, List.set_cons_succ]
                  refine wpAny_ready (rs := [1]) (by kernel_rfl) (by simp) ?_
                  refine AllReady.cons rfl (fun KK hKK => ?_) ?_
                  · skip
                    refine step_call1 (by rfl) 13 (.tmp 50) _ (by rfl) (tlV A c t) (by rfl) (fun _ _ => rfl) _ (copy_any A c t x44 ((G6.out.l).below HBx44.out) (Nat.le_trans (HN.out).1 (by decide))) (some 51) rfl ?_
                    rintro e x51 ⟨A5, c5, rfl, ho5, hb⟩
                    refine ⟨_, rfl, ?_⟩
                    have HBx51 := Lib.hid ((HBx44.out).trans (hb.mono (HBx44.out).size)); have HC51 := Lib.hid ho5.rgs
                    have HP51 := Lib.hid (HP44.out.below hb HP44.out.lt)
                    clear hb ho5; refine hKK _ _ ?_; clear hKK KK; simp only [Act.put, List.setIfInBounds_toArray, List.set_cons_zero, List.set_cons_succ]
                    refine wpAny_ready (rs := [3]) (by kernel_rfl) (by simp) ?_
                    refine AllReady.cons rfl (fun KK hKK => ?_) ?_
                    · skip
                      refine step_call2 (by rfl) 22 (.tmp 51) (.tmp 52) _ (by rfl) (tlV A5 c5 t) (cmV (skM h (keyR t.rs h) n0 (1 + z))) (by rfl) (by rfl) (fun _ _ => rfl) _ (do_as (w := x51) HC51.out (HN.out) (HMM.out.hs) ((G6.out.tb).below HBx51.out) (HMM.out.t1) (HMM.out.e1) (HMM.out.c1)) (some 53) rfl ?_
                      rintro e x52 ⟨A6, c6, B6, e6, rfl, ho6, he6, hb⟩
                      refine ⟨_, rfl, ?_⟩
                      have HBx52 := Lib.hid ((HBx51.out).trans (hb.mono (HBx51.out).size)); have HO52 := Lib.hid (Own.base ho6 (HBx51.out).size); have HE52 := Lib.hid (OwnE.base he6 (HBx51.out).size)
                      have HP52 := Lib.hid (HP51.out.below hb HP51.out.lt)
                      clear hb ho6 he6; refine hKK _ _ ?_; clear hKK KK; simp only [Act.put, List.setIfInBounds_toArray, List.set_cons_zero, List.set_cons_succ]
                      refine take_at (i := 4) (v := ?_) rfl (by kernel_rfl) (by kernel_rfl) (by kernel_rfl) (fun _ _ _ h => h) (some 49) rfl (Or.inl ⟨by rfl, ?_⟩) ?_
                      rotate_left 1
                      · intro w; go_simp; try with_reducible rfl
                      simp only [Act.put, List.setIfInBounds_toArray, List.set_cons_zero, List.set_cons_succ]
                      refine take_at (i := 5) (v := ?_) rfl (by kernel_rfl) (by kernel_rfl) (by kernel_rfl) (fun _ _ _ h => h) (some 54) rfl (Or.inl ⟨by rfl, ?_⟩) ?_
                      rotate_left 1
                      · intro w; go_simp; try with_reducible rfl
                      simp only [Act.put, List.setIfInBounds_toArray, List.set_cons_zero, List.set_cons_succ]
                      refine take_at (i := 6) (v := ?_) rfl (by kernel_rfl) (by kernel_rfl) (by kernel_rfl) (fun _ _ _ h => h) (some 55) rfl (Or.inl ⟨by rfl, ?_⟩) ?_
                      rotate_left 1
                      · intro w; go_simp; try with_reducible rfl
                      simp only [Act.put, List.setIfInBounds_toArray, List.set_cons_zero, List.set_cons_succ]
                      refine take_at (i := 7) (v := ?_) rfl (by kernel_rfl) (by kernel_rfl) (by kernel_rfl) (fun _ _ _ h => h) (some 56) rfl (Or.inl ⟨by rfl, ?_⟩) ?_
                      rotate_left 1
                      · intro w; go_simp; try with_reducible rfl
                      simp only [Act.put, List.setIfInBounds_toArray, List.set_cons_zero, List.set_cons_succ]
                      refine wpAny_ready (rs := [9]) (by kernel_rfl) (by simp) ?_
                      refine AllReady.cons rfl (fun KK hKK => ?_) AllReady.nil
                      refine step_store (by rfl) 27 (.tmp 10) (.tmp 54) (by rfl) _ (tlC A6 c6 (u)) (by rfl) (by rfl) 27 tlZ HP52.out size27 rfl (tlC_one ..) none rfl ?_
                      intro v hbk hon
                      have HX := DoBox.made (A5 := A5) (c5 := c5) HBx52.out HQ.out HP52.out HO52.out HE52.out hbk hon
                      clear hbk hon; refine hKK _ _ ?_; clear hKK KK; simp only [Act.put]
                      refine take_at (i := 10) (v := ?_) rfl (by kernel_rfl) (by kernel_rfl) (by kernel_rfl) (fun _ _ _ h => h) (some 11) rfl (Or.inl ⟨by rfl, ?_⟩) ?_
                      rotate_left 1
                      · intro w; go_simp; try with_reducible rfl
                      simp only [Act.put, List.setIfInBounds_toArray, List.set_cons_zero, List.set_cons_succ]
                      refine take_at (i := 11) (v := ?_) rfl (by kernel_rfl) (by kernel_rfl) (by kernel_rfl) (fun _ _ _ h => h) (some 12) rfl (Or.inl ⟨by rfl, ?_⟩) ?_
                      rotate_left 1
                      · intro w; go_simp; try with_reducible rfl
                      simp only [Act.put, List.setIfInBounds_toArray, List.set_cons_zero, List.set_cons_succ]
                      refine wpAny_done (by kernel_rfl) ?_ _
                      exact HSH _ _ _ _ _ _ _ _ HX
                    exact AllReady.nil
                  exact AllReady.nil
                exact AllReady.nil
              exact AllReady.nil
            exact AllReady.nil
          · skip
            intro v7 p1 A5 c5 A1 cA1 B1 e1 HF
            obtain ⟨hb, hp, hbk, ho, he⟩ := HF
            have G7 := Lib.hid (G6.out.below hb); have HBU := Lib.hid hbk; have HOU := Lib.hid ho.rgs; have HEU := Lib.hid he.evs
            refine hKRx _ _ ?_
            clear hb hp hbk ho he hKRx KRx HCM
            have HNL := HN.out.1
            have c0 : v7.cell? ⟨w.heap.size, 0, none⟩ = some (.slice A t.rs.length c) := G7.out.b.cell 0
            go_wp2_with (fail)
            clear c0
            cases hcd : (cd == 1) with
            | true =>
              obtain ⟨hu1, hu2, hu3, hu4⟩ := HMM.out.yes (eqB hcd)
              have hcd1 := eqB hcd
              have HU1 := Lib.hid hu1; have HU2 := Lib.hid hu2; have HU3 := Lib.hid hu3; have HEV := Lib.hid hu4; have HCD := Lib.hid hcd; have HCD1 := Lib.hid hcd1
              clear hu1 hu2 hu3 hu4 hcd hcd1
              go_loopw [13, 14, 15] (fun n out i wr => ∃ (k : Nat) (B : Option Addr) (cb : Nat), k ≤ t.rs.length ∧ i = .int .i64 k ∧ out = .slice B ((t.rs.take k).filter (skS h n0)).length cb ∧ n = .int .i64 ((told 2 (skQ h n0) (t.rs.take k)).length : Nat) ∧ Hid (Own wr v7.heap.size B cb ((t.rs.take k).filter (skS h n0))) ∧ Hid (Below v7.heap.size v7 wr)) (fun _ _ i _ => t.rs.length - (intOf i).toNat)
              case atStart => exact ⟨0, none, 0, Nat.zero_le _, rfl, rfl, rfl, Lib.hid (Own.nil _ _), Lib.hid (Below.refl _ _)⟩
              case round =>
                obtain ⟨k, B, cb, hk, rfl, rfl, rfl, HO, HB⟩ := hrel
                have HGR := Lib.hid (G7.out.below HB.out)
                have c0 : wr.cell? ⟨w.heap.size, 0, none⟩ = some (.slice A t.rs.length c) := HGR.out.b.cell 0
                by_cases hlt : k < t.rs.length
                · obtain ⟨b, o, x, rfl, hx, hxz, e0, e1'⟩ := HGR.out.l.at_ hlt
                  have HX := Lib.hid hx; have HXZ := Lib.hid hxz
                  have HF := Lib.hid (filter_take (skS h n0) t.rs k x hx)
                  have HTT := Lib.hid (told_take 2 (skQ h n0) t.rs k x hx)
                  clear hx hxz
                  have HLE : Hid (((t.rs.take k).filter (skS h n0)).length ≤ 1000) := by
                    have a1 := List.length_filter_le (skS h n0) (t.rs.take k)
                    have a3 : (t.rs.take k).length ≤ k := by rw [List.length_take]; exact Nat.min_le_left _ _
                    exact Lib.hid (by omega)
                  have HLT : Hid ((told 2 (skQ h n0) (t.rs.take k)).length ≤ 1000) := by
                    have a1 := told_length 2 (skQ h n0) (t.rs.take k)
                    have a3 : (t.rs.take k).length ≤ k := by rw [List.length_take]; exact Nat.min_le_left _ _
                    exact Lib.hid (by omega)
                  cases he : (x.h.toList == h.toList) with
                  | true =>
                    have hS : skS h n0 x = true := by show (eqS x.h h || x.k != n0) = true; rw [show eqS x.h h = true from he]; rfl
                    have HFF := Lib.hid (show (t.rs.take (k + 1)).filter (skS h n0) = (t.rs.take k).filter (skS h n0) ++ [x] by rw [HF.out, hS]; simp)
                    have HT0x := Lib.hid (show told 2 (skQ h n0) (t.rs.take (k + 1)) = told 2 (skQ h n0) (t.rs.take k) by rw [HTT.out, if_neg (by unfold skQ; rw [hS]; decide), List.append_nil])
                    have hal := (Below.refl wr.heap.size wr).alloc (Nat.le_refl _) (.cells (regC x) 57)
                    have HAL := Lib.hid hal
                    have HOA := Lib.hid (HO.out.below hal)
                    have HRN := Lib.hid (rgs_new wr x HXZ.out)
                    clear hal hS
                    generalize hlk : (t.rs.take k).filter (skS h n0) = lk at *
                    go_wp2_with (at_builtin; refine wpList_append_rgs rfl (.tmp 82) (.tmp 88) rfl v7.heap.size B cb lk rfl HOA.out (some ⟨wr.heap.size, 0, none⟩) 1 [x] rfl HRN.out (by have := HLE.out; simp; omega) (Nat.le_trans HB.out.size HAL.out.size) ?_; intro A3 cc w3 hn3 hg3; have H3 := Lib.hid hn3; have HG3 := Lib.hid hg3; clear hn3 hg3)
                    go_roundw
                    case rel => exact ⟨k + 1, A3, cc, by omega, by go_num, by rw [HFF.out]; simp, by rw [HT0x.out], Lib.hid (by rw [HFF.out]; exact H3.out), Lib.hid ((HB.out.trans (HAL.out.mono HB.out.size)).grown HG3.out (Nat.le_trans HB.out.size HAL.out.size) (fun g hg => (HOA.out.1.lt g hg).1))⟩
                    case measure => simp [intOf]; omega
                  | false =>
                    cases hkn : (x.k != n0) with
                    | true =>
                      have hS : skS h n0 x = true := by show (eqS x.h h || x.k != n0) = true; rw [hkn, Bool.or_true]
                      have HFF := Lib.hid (show (t.rs.take (k + 1)).filter (skS h n0) = (t.rs.take k).filter (skS h n0) ++ [x] by rw [HF.out, hS]; simp)
                      have HT0x := Lib.hid (show told 2 (skQ h n0) (t.rs.take (k + 1)) = told 2 (skQ h n0) (t.rs.take k) by rw [HTT.out, if_neg (by unfold skQ; rw [hS]; decide), List.append_nil])
                      have hal := (Below.refl wr.heap.size wr).alloc (Nat.le_refl _) (.cells (regC x) 57)
                      have HAL := Lib.hid hal
                      have HOA := Lib.hid (HO.out.below hal)
                      have HRN := Lib.hid (rgs_new wr x HXZ.out)
                      clear hal hS
                      generalize hlk : (t.rs.take k).filter (skS h n0) = lk at *
                      go_wp2_with (at_builtin; refine wpList_append_rgs rfl (.tmp 82) (.tmp 88) rfl v7.heap.size B cb lk rfl HOA.out (some ⟨wr.heap.size, 0, none⟩) 1 [x] rfl HRN.out (by have := HLE.out; simp; omega) (Nat.le_trans HB.out.size HAL.out.size) ?_; intro A3 cc w3 hn3 hg3; have H3 := Lib.hid hn3; have HG3 := Lib.hid hg3; clear hn3 hg3)
                      go_roundw
                      case rel => exact ⟨k + 1, A3, cc, by omega, by go_num, by rw [HFF.out]; simp, by rw [HT0x.out], Lib.hid (by rw [HFF.out]; exact H3.out), Lib.hid ((HB.out.trans (HAL.out.mono HB.out.size)).grown HG3.out (Nat.le_trans HB.out.size HAL.out.size) (fun g hg => (HOA.out.1.lt g hg).1))⟩
                      case measure => simp [intOf]; omega
                    | false =>
                      have hS : skS h n0 x = false := by show (eqS x.h h || x.k != n0) = false; rw [show eqS x.h h = false from he, hkn]; rfl
                      have hQ : skQ h n0 x = true := by unfold skQ; rw [hS]; rfl
                      have hta := told_all 2 (skQ h n0) t.rs k x HX.out hQ
                      rw [← HEV.out] at hta
                      have HFF := Lib.hid (show (t.rs.take (k + 1)).filter (skS h n0) = (t.rs.take k).filter (skS h n0) by rw [HF.out, hS]; simp)
                      have HT1x := Lib.hid (show (told 2 (skQ h n0) (t.rs.take (k + 1))).length = (told 2 (skQ h n0) (t.rs.take k)).length + 1 by rw [HTT.out, if_pos hQ]; simp)
                      have hEw := HEU.out.below HB.out
                      obtain ⟨eb, eo, ye, hBe, hye, f0, f1⟩ := hEw.at_ hta.2
                      obtain rfl : (⟨x.h, 2⟩ : Ev) = ye := Option.some.inj (hta.1.symm.trans hye)
                      subst hBe
                      have hnl := hta.2
                      have hln := HLT.out
                      clear hS hQ hta hye hEw
                      generalize hN : (told 2 (skQ h n0) (t.rs.take k)).length = N at *
                      have hN1 : (N : Int) < ev.length := by omega
                      have hN2 : ¬ (ev.length : Int) ≤ N := by omega
                      have hcd1 := HCD.out
                      go_upto_region 13 with (fail)
                      go_quiet (fail)
                      go_wp2_with (fail)
                      go_roundw
                      case rel => exact ⟨k + 1, B, cb, by omega, by go_num, by rw [HFF.out], by rw [HT1x.out]; go_num, Lib.hid (by rw [HFF.out]; exact HO.out.below (below_drewN (Below.refl _ _) _)), Lib.hid (below_drewN HB.out _)⟩
                      case measure => simp [intOf]; omega
                · obtain rfl : k = t.rs.length := by omega
                  rw [List.take_length] at HO
                  have hll : (t.rs.take t.rs.length).filter (skS h n0) = t.rs.filter (skS h n0) := by rw [List.take_length]
                  have htl : told 2 (skQ h n0) (t.rs.take t.rs.length) = told 2 (skQ h n0) t.rs := by rw [List.take_length]
                  have htn : (told 2 (skQ h n0) (t.rs.take t.rs.length)).length = ev.length := by rw [htl, HEV.out]
                  rw [htn]
                  have HGE := Lib.hid (HGR.out)
                  have HUE := Lib.hid (HBU.out.below HB.out HBU.out.lt); have HRU := Lib.hid (HOU.out.below HB.out)
                  have u0 : wr.cell? ⟨p1, 0, none⟩ = some (.slice A1 (t.rs.filter (skS h n0)).length cA1) := (HUE.out.cell 0).trans (by show some (Value.slice A1 u.rs.length cA1) = _; rw [HU1.out])
                  have hcd2 : (cd != 1) = false := by simp [bne, HCD.out]
                  have hel : ((ev.length : Int) == (ev.length : Int)) = true := beq_self_eq_true _
                  rw [hll]
                  generalize hL : t.rs.filter (skS h n0) = L at *
                  have hLl : L.length ≤ 100000 := by rw [← hL]; have := List.length_filter_le (skS h n0) t.rs; omega
                  have HRU2 : Rgs wr A1 L := by have := HRU.out; rw [HU1.out] at this; exact this
                  have HLl := Lib.hid hLl; have HRU3 := Lib.hid HRU2
                  clear hL hLl HRU2
                  go_wp2_with (fail)
                  refine (regs_same A1 B cA1 cb L wr HRU3.out HO.out.rgs HLl.out).mono ?_; rintro e v8 ⟨rfl, hb8⟩
                  have G8 := Lib.hid (HGE.out.below hb8); have HU8 := Lib.hid (HUE.out.below hb8 HUE.out.lt)
                  clear hb8 u0 hel hcd2 c0
                  obtain ⟨g, hgg⟩ : ∃ g, g = incG t.ge := ⟨_, rfl⟩
                  have hinc : IntKind.u32.wrap (t.ge + 1) = g := hgg.symm
                  have u3 : v8.cell? ⟨p1, 3, none⟩ = some (.int .u32 g) := (HU8.out.cell 3).trans (by show some (Value.int .u32 u.ge) = _; rw [HU2.out, hgg])
                  have u4 : v8.cell? ⟨p1, 4, none⟩ = some (.bool t.ap) := (HU8.out.cell 4).trans (by show some (Value.bool u.ap) = _; rw [HU3.out])
                  have q3 : v8.cell? ⟨w.heap.size, 3, none⟩ = some (.int .u32 t.ge) := G8.out.b.cell 3
                  have q4 : v8.cell? ⟨w.heap.size, 4, none⟩ = some (.bool t.ap) := G8.out.b.cell 4
                  have hgq : (g == g) = true := beq_self_eq_true _
                  have hap : (t.ap == t.ap) = true := beq_self_eq_true _
                  clear hgg
                  go_wp2_with (fail)
                  refine (wakes_any v8 G8.out.tb).mono ?_; rintro e v9 ⟨rfl, hb⟩
                  have G9 := Lib.hid (G8.out.below hb); clear hb
                  go_wp2_with (fail)
                  go_ret
                  exact ⟨rfl, G9.out.bel⟩
            | false =>
              obtain ⟨hc2, hut, hev, hno⟩ := HMM.out.no (neB hcd)
              have HCD := Lib.hid hcd; have HC2 := Lib.hid hc2; have HNO := Lib.hid hno
              have hut' := hut.symm
              subst hut'
              clear hc2 hut hev hno hcd
              go_loopw [13, 14, 15] (fun n out i wr => ∃ (k : Nat) (B : Option Addr) (cb : Nat), k ≤ t.rs.length ∧ i = .int .i64 k ∧ out = .slice B ((t.rs.take k).filter (skS h n0)).length cb ∧ n = .int .i64 0 ∧ Hid (Own wr v7.heap.size B cb ((t.rs.take k).filter (skS h n0))) ∧ Hid (Below v7.heap.size v7 wr)) (fun _ _ i _ => t.rs.length - (intOf i).toNat)
              case atStart => exact ⟨0, none, 0, Nat.zero_le _, rfl, rfl, rfl, Lib.hid (Own.nil _ _), Lib.hid (Below.refl _ _)⟩
              case round =>
                obtain ⟨k, B, cb, hk, rfl, rfl, rfl, HO, HB⟩ := hrel
                have HGR := Lib.hid (G7.out.below HB.out)
                have c0 : wr.cell? ⟨w.heap.size, 0, none⟩ = some (.slice A t.rs.length c) := HGR.out.b.cell 0
                by_cases hlt : k < t.rs.length
                · obtain ⟨b, o, x, rfl, hx, hxz, e0, e1'⟩ := HGR.out.l.at_ hlt
                  have HX := Lib.hid hx; have HXZ := Lib.hid hxz
                  have HF := Lib.hid (filter_take (skS h n0) t.rs k x hx)
                  clear hx hxz
                  have HLE : Hid (((t.rs.take k).filter (skS h n0)).length ≤ 1000) := by
                    have a1 := List.length_filter_le (skS h n0) (t.rs.take k)
                    have a3 : (t.rs.take k).length ≤ k := by rw [List.length_take]; exact Nat.min_le_left _ _
                    exact Lib.hid (by omega)
                  cases he : (x.h.toList == h.toList) with
                  | true =>
                    have hS : skS h n0 x = true := by show (eqS x.h h || x.k != n0) = true; rw [show eqS x.h h = true from he]; rfl
                    have HFF := Lib.hid (show (t.rs.take (k + 1)).filter (skS h n0) = (t.rs.take k).filter (skS h n0) ++ [x] by rw [HF.out, hS]; simp)
                    have hal := (Below.refl wr.heap.size wr).alloc (Nat.le_refl _) (.cells (regC x) 57)
                    have HAL := Lib.hid hal
                    have HOA := Lib.hid (HO.out.below hal)
                    have HRN := Lib.hid (rgs_new wr x HXZ.out)
                    clear hal hS
                    generalize hlk : (t.rs.take k).filter (skS h n0) = lk at *
                    go_wp2_with (at_builtin; refine wpList_append_rgs rfl (.tmp 82) (.tmp 88) rfl v7.heap.size B cb lk rfl HOA.out (some ⟨wr.heap.size, 0, none⟩) 1 [x] rfl HRN.out (by have := HLE.out; simp; omega) (Nat.le_trans HB.out.size HAL.out.size) ?_; intro A3 cc w3 hn3 hg3; have H3 := Lib.hid hn3; have HG3 := Lib.hid hg3; clear hn3 hg3)
                    go_roundw
                    case rel => exact ⟨k + 1, A3, cc, by omega, by go_num, by rw [HFF.out]; simp, rfl, Lib.hid (by rw [HFF.out]; exact H3.out), Lib.hid ((HB.out.trans (HAL.out.mono HB.out.size)).grown HG3.out (Nat.le_trans HB.out.size HAL.out.size) (fun g hg => (HOA.out.1.lt g hg).1))⟩
                    case measure => simp [intOf]; omega
                  | false =>
                    cases hkn : (x.k != n0) with
                    | true =>
                      have hS : skS h n0 x = true := by show (eqS x.h h || x.k != n0) = true; rw [hkn, Bool.or_true]
                      have HFF := Lib.hid (show (t.rs.take (k + 1)).filter (skS h n0) = (t.rs.take k).filter (skS h n0) ++ [x] by rw [HF.out, hS]; simp)
                      have hal := (Below.refl wr.heap.size wr).alloc (Nat.le_refl _) (.cells (regC x) 57)
                      have HAL := Lib.hid hal
                      have HOA := Lib.hid (HO.out.below hal)
                      have HRN := Lib.hid (rgs_new wr x HXZ.out)
                      clear hal hS
                      generalize hlk : (t.rs.take k).filter (skS h n0) = lk at *
                      go_wp2_with (at_builtin; refine wpList_append_rgs rfl (.tmp 82) (.tmp 88) rfl v7.heap.size B cb lk rfl HOA.out (some ⟨wr.heap.size, 0, none⟩) 1 [x] rfl HRN.out (by have := HLE.out; simp; omega) (Nat.le_trans HB.out.size HAL.out.size) ?_; intro A3 cc w3 hn3 hg3; have H3 := Lib.hid hn3; have HG3 := Lib.hid hg3; clear hn3 hg3)
                      go_roundw
                      case rel => exact ⟨k + 1, A3, cc, by omega, by go_num, by rw [HFF.out]; simp, rfl, Lib.hid (by rw [HFF.out]; exact H3.out), Lib.hid ((HB.out.trans (HAL.out.mono HB.out.size)).grown HG3.out (Nat.le_trans HB.out.size HAL.out.size) (fun g hg => (HOA.out.1.lt g hg).1))⟩
                      case measure => simp [intOf]; omega
                    | false =>
                      have hS : skS h n0 x = false := by show (eqS x.h h || x.k != n0) = false; rw [show eqS x.h h = false from he, hkn]; rfl
                      have := (List.any_eq_false.1 HNO.out) x (List.mem_of_getElem? HX.out)
                      exact absurd (show skQ h n0 x = true by unfold skQ; rw [hS]; rfl) this
                · obtain rfl : k = t.rs.length := by omega
                  rw [List.take_length] at HO
                  have hll : (t.rs.take t.rs.length).filter (skS h n0) = t.rs.filter (skS h n0) := by rw [List.take_length]
                  have hcd2 : (cd != 1) = true := by simp [bne, HCD.out]
                  have hcd3 : (cd == 2) = true := by rw [HC2.out]; rfl
                  have HGE := Lib.hid (HGR.out)
                  have HUE := Lib.hid (HBU.out.below HB.out HBU.out.lt); have HRU := Lib.hid (HOU.out.below HB.out)
                  have uu0 : wr.cell? ⟨p1, 0, none⟩ = some (.slice A1 t.rs.length cA1) := HUE.out.cell 0
                  have uu1 : wr.cell? ⟨p1, 1, none⟩ = some (.int .i64 t.ty) := HUE.out.cell 1
                  have uu2 : wr.cell? ⟨p1, 2, none⟩ = some (.string t.ho) := HUE.out.cell 2
                  have uu3 : wr.cell? ⟨p1, 3, none⟩ = some (.int .u32 t.ge) := HUE.out.cell 3
                  have uu4 : wr.cell? ⟨p1, 4, none⟩ = some (.bool t.ap) := HUE.out.cell 4
                  have c0 : wr.cell? ⟨w.heap.size, 0, none⟩ = some (.slice A t.rs.length c) := HGE.out.b.cell 0
                  have c1 : wr.cell? ⟨w.heap.size, 1, none⟩ = some (.int .i64 t.ty) := HGE.out.b.cell 1
                  have c2 : wr.cell? ⟨w.heap.size, 2, none⟩ = some (.string t.ho) := HGE.out.b.cell 2
                  have c3 : wr.cell? ⟨w.heap.size, 3, none⟩ = some (.int .u32 t.ge) := HGE.out.b.cell 3
                  have c4 : wr.cell? ⟨w.heap.size, 4, none⟩ = some (.bool t.ap) := HGE.out.b.cell 4
                  clear hll
                  go_wp2_with (fail)
                  refine (tables_same A1 A cA1 c t wr HRU.out HGE.out.l (Nat.le_trans HNL (by decide))).mono ?_; rintro e v8 ⟨rfl, hb8⟩
                  have G8 := Lib.hid (HGE.out.below hb8)
                  clear hb8 uu0 uu1 uu2 uu3 uu4 c0 c1 c2 c3 c4 hcd2 hcd3
                  go_wp2_with (fail)
                  refine (wakes_any v8 G8.out.tb).mono ?_; rintro e v9 ⟨rfl, hb⟩
                  have G9 := Lib.hid (G8.out.below hb); clear hb
                  go_wp2_with (fail)
                  go_ret
                  exact ⟨rfl, G9.out.bel⟩
end Go.Proofs.YtgekadfkokkapaaDoor
