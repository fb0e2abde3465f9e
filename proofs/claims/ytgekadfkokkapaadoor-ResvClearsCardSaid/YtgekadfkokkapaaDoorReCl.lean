/- What is cleared may be reserved anew: the statement. -/
import Derived.Test.YtgekadfkokkapaaDoorReKp
namespace Go.Proofs.YtgekadfkokkapaaDoor
open Go.RowKit
/-- The commands of the statement. -/
def clM (h : ByteArray) (k : Int) : Cm := ⟨11, 0, h, 0, 0, ⟨#[]⟩, false, none, 0, 0, k, 0, 0, 0, false, 0⟩
def clR (h : ByteArray) (k : Int) : Cm := ⟨8, 0, h, 0, 0, ⟨#[]⟩, false, none, 0, 0, 0, k, 0, 0, false, 0⟩
def clV (h : ByteArray) (k y : Int) : Cm := ⟨9, 0, h, 0, 0, ⟨#[]⟩, false, none, 0, 0, k, 0, 0, y, false, 0⟩
structure ClM (h : ByteArray) (t : Tl) (y : Int) (u v x : Tl) (ev e2 e3 : List Ev) : Prop where
  hs : h.size ≤ 1000
  t1 : doT t (clM h (keyR t.rs h)) = u
  e1 : doE t (clM h (keyR t.rs h)) = ev
  c1 : doC t (clM h (keyR t.rs h)) = 1
  n1 : u.rs.length = 0
  y1 : u.ty = 0
  g1 : u.ge = incG t.ge
  a1 : u.ap = t.ap
  l1 : ev.length = t.rs.length - 1
  s1 : Small u
  t2 : doT u (clR h (keyR t.rs h)) = v
  e2' : doE u (clR h (keyR t.rs h)) = e2
  c2 : doC u (clR h (keyR t.rs h)) = 1
  s2 : Small v
  t3 : doT v (clV h (keyR t.rs h) y) = x
  e3' : doE v (clV h (keyR t.rs h) y) = e3
  c3 : doC v (clV h (keyR t.rs h) y) = 1
  ho : holdsB x h = true
  y3 : x.ty = y
  ma : mayB x h 3 = true
  x3 : x.rs.length ≤ maxLen
theorem clMath {h : ByteArray} {t : Tl} {y : Int} (hg : GoodP t) (hk : keyR t.rs h ≠ 0) (hy : 1 ≤ y ∧ y ≤ 6) : ∃ u v x ev e2 e3, ClM h t y u v x ev e2 e3 := by
  have hr : regB t.rs h = true := (keyR_pos hg.toRegsP).1 hk
  obtain ⟨r, hx, hxh⟩ := regB_iff.1 hr
  have hn : nameB h = true := by rw [← hxh]; exact hg.nm r hx
  have hh64 := (name_size hn).2
  have hty6 : typeB y = true := type_iff.2 (by omega)
  have hrd : regdB t (clM h (keyR t.rs h)) = true := regd_iff.2 ⟨hk, rfl⟩
  have hg1 : doG t (clM h (keyR t.rs h)) = true := doG_iff.2 ⟨⟨(by decide : (8 : Int) ≤ 11), (by decide : (11 : Int) ≤ 12)⟩, hg, hn⟩
  have T1 : doT t (clM h (keyR t.rs h)) = clrT t := by
    unfold doT; rw [if_pos hg1]
    show clearT t _ = _
    unfold clearT; rw [if_pos hrd]
  have C1 : doC t (clM h (keyR t.rs h)) = 1 := by
    unfold doC; rw [if_pos hg1]
    show clearCode t _ = _
    unfold clearCode; rw [if_pos hrd]
  have E1 : (doE t (clM h (keyR t.rs h))).length = t.rs.length - 1 := by
    unfold doE; rw [if_pos hg1]
    show (clearE t (clM h (keyR t.rs h)) []).length = _
    unfold clearE; rw [if_pos hrd, List.nil_append]
    unfold told
    rw [List.length_map]
    have := others_length hg.un hr
    show (t.rs.filter (fun r => !eqS r.h h)).length = _
    omega
  have hgu : GoodP (clrT t) := clr_good
  have hg2 : doG (clrT t) (clR h (keyR t.rs h)) = true := doG_iff.2 ⟨⟨(by decide : (8 : Int) ≤ 8), (by decide : (8 : Int) ≤ 12)⟩, hgu, hn⟩
  have hru : regB (clrT t).rs h = false := rfl
  have hk0 : keyR (clrT t).rs h = 0 := rfl
  have hcond : ¬ (!(clR h (keyR t.rs h)).ig && (clR h (keyR t.rs h)).ke != keyR (clrT t).rs (clR h (keyR t.rs h)).ho) = true := by
    show ¬ (!false && (0 : Int) != 0) = true
    decide
  have hnk : ¬ (clR h (keyR t.rs h)).nk = 0 := hk
  have T2 : doT (clrT t) (clR h (keyR t.rs h)) = setAp (newT (clrT t) (clR h (keyR t.rs h))) (clR h (keyR t.rs h)) := by
    unfold doT; rw [if_pos hg2]
    rw [if_pos (show (clR h (keyR t.rs h)).op = 8 from rfl)]
    unfold regT
    rw [if_neg hcond, if_neg hnk, if_neg (by show ¬ false = true; decide), if_neg (by show ¬ (0 : Nat) = 16; decide)]
  have C2 : doC (clrT t) (clR h (keyR t.rs h)) = 1 := by
    unfold doC; rw [if_pos hg2]
    rw [if_pos (show (clR h (keyR t.rs h)).op = 8 from rfl)]
    unfold regCode
    rw [if_neg hcond, if_neg hnk, if_neg (by show ¬ false = true; decide), if_neg (by show ¬ (0 : Nat) = 16; decide)]
  have hgv : GoodP (doT (clrT t) (clR h (keyR t.rs h))) := do_good hgu
  have hvrs : (doT (clrT t) (clR h (keyR t.rs h))).rs = [⟨h, keyR t.rs h⟩] := by rw [T2]; rfl
  have hvty : (doT (clrT t) (clR h (keyR t.rs h))).ty = 0 := by rw [T2]; rfl
  have hvreg : regB (doT (clrT t) (clR h (keyR t.rs h))).rs h = true := by
    rw [hvrs]; exact regB_iff.2 ⟨_, List.mem_singleton.2 rfl, rfl⟩
  have hvkey : keyR (doT (clrT t) (clR h (keyR t.rs h))).rs h = keyR t.rs h := by
    have := keyR_of hgv.un (x := ⟨h, keyR t.rs h⟩) (by rw [hvrs]; exact List.mem_singleton.2 rfl)
    exact this
  obtain ⟨v, hv⟩ : ∃ v, v = doT (clrT t) (clR h (keyR t.rs h)) := ⟨_, rfl⟩
  rw [← hv] at hgv hvrs hvty hvreg hvkey
  have hrd3 : regdB v (clV h (keyR t.rs h) y) = true := regd_iff.2 ⟨hk, hvkey.symm⟩
  have hg3 : doG v (clV h (keyR t.rs h) y) = true := doG_iff.2 ⟨⟨(by decide : (8 : Int) ≤ 9), (by decide : (9 : Int) ≤ 12)⟩, hgv, hn⟩
  have T3 : doT v (clV h (keyR t.rs h) y) = holdT v (clV h (keyR t.rs h) y) := by
    unfold doT; rw [if_pos hg3]
    show resvT _ _ = _
    unfold resvT
    rw [if_neg (by show ¬ typeB y = false; rw [hty6]; decide), if_neg (by rw [hrd3]; decide), if_pos hvty]
  have C3 : doC v (clV h (keyR t.rs h) y) = 1 := by
    unfold doC; rw [if_pos hg3]
    show resvCode _ _ = _
    unfold resvCode
    rw [if_neg (by show ¬ typeB y = false; rw [hty6]; decide), if_neg (by rw [hrd3]; decide), if_pos hvty]
  have hHo : holdsB (holdT v (clV h (keyR t.rs h) y)) h = true := by
    apply holds_iff.2
    by_cases hs : shB y = true
    · exact .inr ⟨sh_iff.1 hs, hvreg⟩
    · exact .inl ⟨sh_of hty6 hs, by show h = (if shB y then _ else h); rw [if_neg hs]⟩
  have hgx : GoodP (holdT v (clV h (keyR t.rs h) y)) := hold_good (m := clV h (keyR t.rs h) y) hgv.toRegsP hty6 hvreg
  refine ⟨clrT t, v, holdT v (clV h (keyR t.rs h) y), doE t (clM h (keyR t.rs h)), doE (clrT t) (clR h (keyR t.rs h)), doE v (clV h (keyR t.rs h) y), ⟨by omega, T1, rfl, C1, rfl, rfl, rfl, rfl, E1, hgu.small, ?_, rfl, C2, hgv.small, T3, rfl, C3, hHo, rfl, ?_, ?_⟩⟩
  · exact hv.symm
  · rw [mayB_eq, hHo, Bool.true_or]
  · exact Nat.le_trans hgx.len (by unfold maxLen; decide)
set_option maxRecDepth 100000 in
set_option maxHeartbeats 16000000 in
theorem clears_any (A : Option Addr) (c : Nat) (t : Tl) (h : ByteArray) (ty : Int) (w : World) (hl : Rgs w A t.rs) (hm : t.rs.length ≤ maxLen) (hsz : h.size ≤ maxLen) (ht : RTab w) :
    Calls Tryd.prog 8 #[tlV A c t, .string h, .int .i64 ty] w fun e w' => e = .returned (.bool true) ∧ Below w.heap.size w w' := by
  have HNA := Lib.hid (fun v => refName_any h v hsz)
  clear hsz
  have G0 := Lib.hid (BxAt.from w A c t hl ht); have HL0 := Lib.hid hl; have HT0 := Lib.hid ht
  have HM := Lib.hid hm
  have hnt := not_true
  have hnf := not_false
  clear hl hm ht
  go_enter Tryd.func8, Tryd.ntmps8
  go_upto_region 1 with (fail)
  change Code.wp _ _ _ _ (w.alloc (.cells (tlC A c t) 27))
  generalize w.alloc (.cells (tlC A c t) 27) = v0 at *
  have c0 : v0.cell? ⟨w.heap.size, 0, none⟩ = some (.slice A t.rs.length c) := G0.out.b.cell 0
  have c1 : v0.cell? ⟨w.heap.size, 1, none⟩ = some (.int .i64 t.ty) := G0.out.b.cell 1
  have c2 : v0.cell? ⟨w.heap.size, 2, none⟩ = some (.string t.ho) := G0.out.b.cell 2
  have c3 : v0.cell? ⟨w.heap.size, 3, none⟩ = some (.int .u32 t.ge) := G0.out.b.cell 3
  have c4 : v0.cell? ⟨w.heap.size, 4, none⟩ = some (.bool t.ap) := G0.out.b.cell 4
  go_wp2_with (fail)
  refine (largeX_any A c t _ G0.out.l HM.out).mono ?_; rintro e v1 ⟨r, rfl, hr, hb⟩
  have G1 := Lib.hid (G0.out.below hb)
  have HR := Lib.hid hr; clear hr
  clear hb c0 c1 c2 c3 c4
  cases r with
  | true =>
    have c0 : v1.cell? ⟨w.heap.size, 0, none⟩ = some (.slice A t.rs.length c) := G1.out.b.cell 0
    have c1 : v1.cell? ⟨w.heap.size, 1, none⟩ = some (.int .i64 t.ty) := G1.out.b.cell 1
    have c2 : v1.cell? ⟨w.heap.size, 2, none⟩ = some (.string t.ho) := G1.out.b.cell 2
    have c3 : v1.cell? ⟨w.heap.size, 3, none⟩ = some (.int .u32 t.ge) := G1.out.b.cell 3
    have c4 : v1.cell? ⟨w.heap.size, 4, none⟩ = some (.bool t.ap) := G1.out.b.cell 4
    go_wp2_with (fail)
    refine (wakes_any _ G1.out.tb).mono ?_; rintro e v2 ⟨rfl, hb⟩
    have G2 := Lib.hid (G1.out.below hb)
    clear hb c0 c1 c2 c3 c4
    go_wp2_with (fail)
    go_ret
    exact ⟨rfl, G2.out.bel⟩
  | false =>
    have HN := Lib.hid (HR.out rfl)
    have HG := Lib.hid (fun v (hl2 : Rgs v A t.rs) => refGood_any A c t v hl2 HM.out)
    have HK := Lib.hid (fun v (hl2 : Rgs v A t.rs) => refKey_any A c t h v hl2 HM.out)
    clear HR
    cases hg : goodB t with
    | false =>
      rw [hg] at HG
      clear hg
      have c0 : v1.cell? ⟨w.heap.size, 0, none⟩ = some (.slice A t.rs.length c) := G1.out.b.cell 0
      have c1 : v1.cell? ⟨w.heap.size, 1, none⟩ = some (.int .i64 t.ty) := G1.out.b.cell 1
      have c2 : v1.cell? ⟨w.heap.size, 2, none⟩ = some (.string t.ho) := G1.out.b.cell 2
      have c3 : v1.cell? ⟨w.heap.size, 3, none⟩ = some (.int .u32 t.ge) := G1.out.b.cell 3
      have c4 : v1.cell? ⟨w.heap.size, 4, none⟩ = some (.bool t.ap) := G1.out.b.cell 4
      go_wp2_with (fail)
      refine (HG.out _ G1.out.l).mono ?_; rintro e v2 ⟨rfl, hb⟩
      have G2 := Lib.hid (G1.out.below hb)
      clear hb c0 c1 c2 c3 c4
      have c0 : v2.cell? ⟨w.heap.size, 0, none⟩ = some (.slice A t.rs.length c) := G2.out.b.cell 0
      have c1 : v2.cell? ⟨w.heap.size, 1, none⟩ = some (.int .i64 t.ty) := G2.out.b.cell 1
      have c2 : v2.cell? ⟨w.heap.size, 2, none⟩ = some (.string t.ho) := G2.out.b.cell 2
      have c3 : v2.cell? ⟨w.heap.size, 3, none⟩ = some (.int .u32 t.ge) := G2.out.b.cell 3
      have c4 : v2.cell? ⟨w.heap.size, 4, none⟩ = some (.bool t.ap) := G2.out.b.cell 4
      go_wp2_with (fail)
      refine (wakes_any _ G2.out.tb).mono ?_; rintro e v3 ⟨rfl, hb⟩
      have G3 := Lib.hid (G2.out.below hb)
      clear hb c0 c1 c2 c3 c4
      go_wp2_with (fail)
      go_ret
      exact ⟨rfl, G3.out.bel⟩
    | true =>
      rw [hg] at HG
      have HGP := Lib.hid (goodB_iff.1 hg)
      clear hg
      cases hna : nameB h with
      | false =>
        rw [hna] at HNA
        clear hna
        have c0 : v1.cell? ⟨w.heap.size, 0, none⟩ = some (.slice A t.rs.length c) := G1.out.b.cell 0
        have c1 : v1.cell? ⟨w.heap.size, 1, none⟩ = some (.int .i64 t.ty) := G1.out.b.cell 1
        have c2 : v1.cell? ⟨w.heap.size, 2, none⟩ = some (.string t.ho) := G1.out.b.cell 2
        have c3 : v1.cell? ⟨w.heap.size, 3, none⟩ = some (.int .u32 t.ge) := G1.out.b.cell 3
        have c4 : v1.cell? ⟨w.heap.size, 4, none⟩ = some (.bool t.ap) := G1.out.b.cell 4
        go_wp2_with (fail)
        refine (HG.out _ G1.out.l).mono ?_; rintro e v2 ⟨rfl, hb⟩
        have G2 := Lib.hid (G1.out.below hb)
        clear hb c0 c1 c2 c3 c4
        go_wp2_with (fail)
        refine (HNA.out _).mono ?_; rintro e v2' ⟨rfl, rfl⟩
        have c0 : v2.cell? ⟨w.heap.size, 0, none⟩ = some (.slice A t.rs.length c) := G2.out.b.cell 0
        have c1 : v2.cell? ⟨w.heap.size, 1, none⟩ = some (.int .i64 t.ty) := G2.out.b.cell 1
        have c2 : v2.cell? ⟨w.heap.size, 2, none⟩ = some (.string t.ho) := G2.out.b.cell 2
        have c3 : v2.cell? ⟨w.heap.size, 3, none⟩ = some (.int .u32 t.ge) := G2.out.b.cell 3
        have c4 : v2.cell? ⟨w.heap.size, 4, none⟩ = some (.bool t.ap) := G2.out.b.cell 4
        go_wp2_with (fail)
        refine (wakes_any _ G2.out.tb).mono ?_; rintro e v3 ⟨rfl, hb⟩
        have G3 := Lib.hid (G2.out.below hb)
        clear hb c0 c1 c2 c3 c4
        go_wp2_with (fail)
        go_ret
        exact ⟨rfl, G3.out.bel⟩
      | true =>
        rw [hna] at HNA
        clear hna
        cases hk : (keyR t.rs h == 0) with
        | true =>
          have c0 : v1.cell? ⟨w.heap.size, 0, none⟩ = some (.slice A t.rs.length c) := G1.out.b.cell 0
          have c1 : v1.cell? ⟨w.heap.size, 1, none⟩ = some (.int .i64 t.ty) := G1.out.b.cell 1
          have c2 : v1.cell? ⟨w.heap.size, 2, none⟩ = some (.string t.ho) := G1.out.b.cell 2
          have c3 : v1.cell? ⟨w.heap.size, 3, none⟩ = some (.int .u32 t.ge) := G1.out.b.cell 3
          have c4 : v1.cell? ⟨w.heap.size, 4, none⟩ = some (.bool t.ap) := G1.out.b.cell 4
          go_wp2_with (fail)
          refine (HG.out _ G1.out.l).mono ?_; rintro e v2 ⟨rfl, hb⟩
          have G2 := Lib.hid (G1.out.below hb)
          clear hb c0 c1 c2 c3 c4
          go_wp2_with (fail)
          refine (HNA.out _).mono ?_; rintro e v2' ⟨rfl, rfl⟩
          have c0 : v2.cell? ⟨w.heap.size, 0, none⟩ = some (.slice A t.rs.length c) := G2.out.b.cell 0
          have c1 : v2.cell? ⟨w.heap.size, 1, none⟩ = some (.int .i64 t.ty) := G2.out.b.cell 1
          have c2 : v2.cell? ⟨w.heap.size, 2, none⟩ = some (.string t.ho) := G2.out.b.cell 2
          have c3 : v2.cell? ⟨w.heap.size, 3, none⟩ = some (.int .u32 t.ge) := G2.out.b.cell 3
          have c4 : v2.cell? ⟨w.heap.size, 4, none⟩ = some (.bool t.ap) := G2.out.b.cell 4
          go_wp2_with (fail)
          refine (HK.out _ G2.out.l).mono ?_; rintro e v3 ⟨rfl, hb⟩
          have G3 := Lib.hid (G2.out.below hb)
          clear hb c0 c1 c2 c3 c4
          have c0 : v3.cell? ⟨w.heap.size, 0, none⟩ = some (.slice A t.rs.length c) := G3.out.b.cell 0
          have c1 : v3.cell? ⟨w.heap.size, 1, none⟩ = some (.int .i64 t.ty) := G3.out.b.cell 1
          have c2 : v3.cell? ⟨w.heap.size, 2, none⟩ = some (.string t.ho) := G3.out.b.cell 2
          have c3 : v3.cell? ⟨w.heap.size, 3, none⟩ = some (.int .u32 t.ge) := G3.out.b.cell 3
          have c4 : v3.cell? ⟨w.heap.size, 4, none⟩ = some (.bool t.ap) := G3.out.b.cell 4
          go_wp2_with (fail)
          refine (wakes_any _ G3.out.tb).mono ?_; rintro e v4 ⟨rfl, hb⟩
          have G4 := Lib.hid (G3.out.below hb)
          clear hb c0 c1 c2 c3 c4
          go_wp2_with (fail)
          go_ret
          exact ⟨rfl, G4.out.bel⟩
        | false =>
          have c0 : v1.cell? ⟨w.heap.size, 0, none⟩ = some (.slice A t.rs.length c) := G1.out.b.cell 0
          have c1 : v1.cell? ⟨w.heap.size, 1, none⟩ = some (.int .i64 t.ty) := G1.out.b.cell 1
          have c2 : v1.cell? ⟨w.heap.size, 2, none⟩ = some (.string t.ho) := G1.out.b.cell 2
          have c3 : v1.cell? ⟨w.heap.size, 3, none⟩ = some (.int .u32 t.ge) := G1.out.b.cell 3
          have c4 : v1.cell? ⟨w.heap.size, 4, none⟩ = some (.bool t.ap) := G1.out.b.cell 4
          go_wp2_with (fail)
          refine (HG.out _ G1.out.l).mono ?_; rintro e v2 ⟨rfl, hb⟩
          have G2 := Lib.hid (G1.out.below hb)
          clear hb c0 c1 c2 c3 c4
          go_wp2_with (fail)
          refine (HNA.out _).mono ?_; rintro e v2' ⟨rfl, rfl⟩
          have c0 : v2.cell? ⟨w.heap.size, 0, none⟩ = some (.slice A t.rs.length c) := G2.out.b.cell 0
          have c1 : v2.cell? ⟨w.heap.size, 1, none⟩ = some (.int .i64 t.ty) := G2.out.b.cell 1
          have c2 : v2.cell? ⟨w.heap.size, 2, none⟩ = some (.string t.ho) := G2.out.b.cell 2
          have c3 : v2.cell? ⟨w.heap.size, 3, none⟩ = some (.int .u32 t.ge) := G2.out.b.cell 3
          have c4 : v2.cell? ⟨w.heap.size, 4, none⟩ = some (.bool t.ap) := G2.out.b.cell 4
          go_wp2_with (fail)
          refine (HK.out _ G2.out.l).mono ?_; rintro e v3 ⟨rfl, hb⟩
          have G3 := Lib.hid (G2.out.below hb)
          clear hb c0 c1 c2 c3 c4
          have c0 : v3.cell? ⟨w.heap.size, 0, none⟩ = some (.slice A t.rs.length c) := G3.out.b.cell 0
          have c1 : v3.cell? ⟨w.heap.size, 1, none⟩ = some (.int .i64 t.ty) := G3.out.b.cell 1
          have c2 : v3.cell? ⟨w.heap.size, 2, none⟩ = some (.string t.ho) := G3.out.b.cell 2
          have c3 : v3.cell? ⟨w.heap.size, 3, none⟩ = some (.int .u32 t.ge) := G3.out.b.cell 3
          have c4 : v3.cell? ⟨w.heap.size, 4, none⟩ = some (.bool t.ap) := G3.out.b.cell 4
          go_wp2_with (fail)
          refine (HK.out _ G3.out.l).mono ?_; rintro e v4 ⟨rfl, hb⟩
          have G4 := Lib.hid (G3.out.below hb)
          clear hb c0 c1 c2 c3 c4
          have HKN := Lib.hid (neB hk)
          have Hln := Lib.hid (pos_of_reg ((keyR_pos HGP.out.toRegsP).1 (neB hk)))
          clear hk
          obtain ⟨z, hz, hz0, hz6⟩ : ∃ z : Int, z = ty % 6 ∧ 0 ≤ z ∧ z < 6 := ⟨_, rfl, by omega, by omega⟩
          obtain ⟨u, vT, xT, ev, e2, e3, hM⟩ := clMath HGP.out HKN.out (show 1 ≤ 1 + z ∧ 1 + z ≤ 6 by omega)
          have HMM := Lib.hid hM
          clear hM
          obtain ⟨kk, hkk⟩ : ∃ kk, kk = keyR t.rs h := ⟨_, rfl⟩
          have k11 : ∀ v : World, (Instr.build 37 #[(0, .int .i64 11), (2, .string h), (8, .int .u64 (keyR t.rs h))]).run Tryd.prog v = .ok (cmV (clM h (keyR t.rs h))) v := fun _ => by kernel_rfl
          have k8 : ∀ v : World, (Instr.build 37 #[(0, .int .i64 8), (2, .string h), (9, .int .u64 (keyR t.rs h))]).run Tryd.prog v = .ok (cmV (clR h (keyR t.rs h))) v := fun _ => by kernel_rfl
          have k9 : ∀ v : World, (Instr.build 37 #[(0, .int .i64 9), (2, .string h), (8, .int .u64 (keyR t.rs h)), (11, .int .i64 (1 + z))]).run Tryd.prog v = .ok (cmV (clV h (keyR t.rs h) (1 + z))) v := fun _ => by kernel_rfl
          clear hkk kk
          have c0 : v4.cell? ⟨w.heap.size, 0, none⟩ = some (.slice A t.rs.length c) := G4.out.b.cell 0
          have c1 : v4.cell? ⟨w.heap.size, 1, none⟩ = some (.int .i64 t.ty) := G4.out.b.cell 1
          have c2 : v4.cell? ⟨w.heap.size, 2, none⟩ = some (.string t.ho) := G4.out.b.cell 2
          have c3 : v4.cell? ⟨w.heap.size, 3, none⟩ = some (.int .u32 t.ge) := G4.out.b.cell 3
          have c4 : v4.cell? ⟨w.heap.size, 4, none⟩ = some (.bool t.ap) := G4.out.b.cell 4
          go_wp2_with (fail)
          refine (copy_any A c t v4 G4.out.l (Nat.le_trans HN.out.1 (by decide))).mono ?_; rintro e v5 ⟨A5, c5, rfl, ho5, hb⟩
          have G5 := Lib.hid (G4.out.below hb); have HR5 := Lib.hid ho5.rgs
          clear hb ho5 c0 c1 c2 c3 c4
          go_wp2_with (fail)
          refine (do_as HR5.out HN.out HMM.out.hs G5.out.tb HMM.out.t1 HMM.out.e1 HMM.out.c1).mono ?_; rintro e v6 ⟨A1, cA1, B1, e1, rfl, ho, he, hb⟩
          have G6 := Lib.hid (G5.out.below hb); have HO6 := Lib.hid ho.rgs
          clear hb ho he k11
          go_upto_region 5 with (fail)
          change Code.wp _ _ _ _ (v6.alloc (.cells (tlC A1 cA1 u) 27))
          have hal := (Below.refl v6.heap.size v6).alloc (Nat.le_refl _) (.cells (tlC A1 cA1 u) 27)
          have HB7 := Lib.hid (Blk.new v6 27 (tlC A1 cA1 u)); have G7 := Lib.hid (G6.out.below hal); have HO7 := Lib.hid (HO6.out.below hal)
          obtain ⟨p1, hp1⟩ : ∃ p1, p1 = v6.heap.size := ⟨_, rfl⟩
          rw [← hp1] at HB7 ⊢
          clear hal hp1
          generalize v6.alloc (.cells (tlC A1 cA1 u) 27) = v7 at *
          have a0 : v7.cell? ⟨p1, 0, none⟩ = some (.slice A1 0 cA1) := (HB7.out.cell 0).trans (by show some (Value.slice A1 u.rs.length cA1) = _; rw [HMM.out.n1])
          have a1 : v7.cell? ⟨p1, 1, none⟩ = some (.int .i64 0) := (HB7.out.cell 1).trans (by show some (Value.int .i64 u.ty) = _; rw [HMM.out.y1])
          have a3 : v7.cell? ⟨p1, 3, none⟩ = some (.int .u32 (incG t.ge)) := (HB7.out.cell 3).trans (by show some (Value.int .u32 u.ge) = _; rw [HMM.out.g1])
          have a4 : v7.cell? ⟨p1, 4, none⟩ = some (.bool t.ap) := (HB7.out.cell 4).trans (by show some (Value.bool u.ap) = _; rw [HMM.out.a1])
          have c0 : v7.cell? ⟨w.heap.size, 0, none⟩ = some (.slice A t.rs.length c) := G7.out.b.cell 0
          have c1 : v7.cell? ⟨w.heap.size, 1, none⟩ = some (.int .i64 t.ty) := G7.out.b.cell 1
          have c2 : v7.cell? ⟨w.heap.size, 2, none⟩ = some (.string t.ho) := G7.out.b.cell 2
          have c3 : v7.cell? ⟨w.heap.size, 3, none⟩ = some (.int .u32 t.ge) := G7.out.b.cell 3
          have c4 : v7.cell? ⟨w.heap.size, 4, none⟩ = some (.bool t.ap) := G7.out.b.cell 4
          have hn1 : 1 ≤ t.rs.length := Hln.out
          have hn2 : t.rs.length ≤ 200 := HN.out.1
          have hwn : IntKind.i64.wrap ((t.rs.length : Int) - 1) = ((t.rs.length - 1 : Nat) : Int) := by rw [i64w _ (by omega)]; omega
          have hinc : IntKind.u32.wrap (t.ge + 1) = incG t.ge := rfl
          obtain ⟨q, hq⟩ : ∃ q : Int, q = ((t.rs.length - 1 : Nat) : Int) := ⟨_, rfl⟩
          have hql : ((ev.length : Int) != q) = false := by rw [HMM.out.l1, hq]; simp
          rw [← hq] at hwn
          have hzz := z
          clear hn1 hn2 hq hzz
          obtain ⟨g, hgg⟩ : ∃ g, g = incG t.ge := ⟨_, rfl⟩
          rw [← hgg] at a3 hinc
          clear hgg
          have hap : (t.ap != t.ap) = false := by simp
          have hgq : (g != g) = false := by simp
          go_upto_region 7 with (fail)
          clear a0 a1 a3 a4 c0 c1 c2 c3 c4 hwn hinc hql hap hgq
          have hmo := mod_any ty 6 (by decide) (by decide) v7
          rw [show ((6 : Nat) : Int) = 6 from rfl, ← hz] at hmo
          have hwz : IntKind.i64.wrap (1 + z) = 1 + z := i64w _ (by omega)
          go_wp2_with (fail)
          refine hmo.mono ?_; rintro e v7' ⟨rfl, rfl⟩
          clear hmo hz
          have a0 : v7.cell? ⟨p1, 0, none⟩ = some (.slice A1 u.rs.length cA1) := HB7.out.cell 0
          have a1 : v7.cell? ⟨p1, 1, none⟩ = some (.int .i64 u.ty) := HB7.out.cell 1
          have a2 : v7.cell? ⟨p1, 2, none⟩ = some (.string u.ho) := HB7.out.cell 2
          have a3 : v7.cell? ⟨p1, 3, none⟩ = some (.int .u32 u.ge) := HB7.out.cell 3
          have a4 : v7.cell? ⟨p1, 4, none⟩ = some (.bool u.ap) := HB7.out.cell 4
          go_wp2_with (fail)
          refine (do_as HO7.out HMM.out.s1 HMM.out.hs G7.out.tb HMM.out.t2 HMM.out.e2' HMM.out.c2).mono ?_; rintro e v8 ⟨A2, cA2, B2, e22, rfl, ho, he, hb⟩
          have G8 := Lib.hid (G7.out.below hb); have HO8 := Lib.hid ho.rgs
          clear hb ho he k8 a0 a1 a2 a3 a4
          go_upto_region 9 with (fail)
          change Code.wp _ _ _ _ (v8.alloc (.cells (tlC A2 cA2 vT) 27))
          have hal := (Below.refl v8.heap.size v8).alloc (Nat.le_refl _) (.cells (tlC A2 cA2 vT) 27)
          have HB9 := Lib.hid (Blk.new v8 27 (tlC A2 cA2 vT)); have G9 := Lib.hid (G8.out.below hal); have HO9 := Lib.hid (HO8.out.below hal)
          obtain ⟨p2, hp2⟩ : ∃ p2, p2 = v8.heap.size := ⟨_, rfl⟩
          rw [← hp2] at HB9 ⊢
          clear hal hp2
          generalize v8.alloc (.cells (tlC A2 cA2 vT) 27) = v9 at *
          have a0 : v9.cell? ⟨p2, 0, none⟩ = some (.slice A2 vT.rs.length cA2) := HB9.out.cell 0
          have a1 : v9.cell? ⟨p2, 1, none⟩ = some (.int .i64 vT.ty) := HB9.out.cell 1
          have a2 : v9.cell? ⟨p2, 2, none⟩ = some (.string vT.ho) := HB9.out.cell 2
          have a3 : v9.cell? ⟨p2, 3, none⟩ = some (.int .u32 vT.ge) := HB9.out.cell 3
          have a4 : v9.cell? ⟨p2, 4, none⟩ = some (.bool vT.ap) := HB9.out.cell 4
          go_wp2_with (fail)
          refine (do_as HO9.out HMM.out.s2 HMM.out.hs G9.out.tb HMM.out.t3 HMM.out.e3' HMM.out.c3).mono ?_; rintro e v10 ⟨A3, cA3, B3, e33, rfl, ho, he, hb⟩
          have G10 := Lib.hid (G9.out.below hb); have HO10 := Lib.hid ho.rgs
          clear hb ho he k9 a0 a1 a2 a3 a4
          go_upto_region 10 with (fail)
          change Code.wp _ _ _ _ (v10.alloc (.cells (tlC A3 cA3 xT) 27))
          have hal := (Below.refl v10.heap.size v10).alloc (Nat.le_refl _) (.cells (tlC A3 cA3 xT) 27)
          have HB11 := Lib.hid (Blk.new v10 27 (tlC A3 cA3 xT)); have G11 := Lib.hid (G10.out.below hal); have HO11 := Lib.hid (HO10.out.below hal)
          obtain ⟨p3, hp3⟩ : ∃ p3, p3 = v10.heap.size := ⟨_, rfl⟩
          rw [← hp3] at HB11 ⊢
          clear hal hp3
          generalize v10.alloc (.cells (tlC A3 cA3 xT) 27) = v11 at *
          have hho := HMM.out.ho
          have hma := HMM.out.ma
          have a0 : v11.cell? ⟨p3, 0, none⟩ = some (.slice A3 xT.rs.length cA3) := HB11.out.cell 0
          have a1 : v11.cell? ⟨p3, 1, none⟩ = some (.int .i64 xT.ty) := HB11.out.cell 1
          have a2 : v11.cell? ⟨p3, 2, none⟩ = some (.string xT.ho) := HB11.out.cell 2
          have a3 : v11.cell? ⟨p3, 3, none⟩ = some (.int .u32 xT.ge) := HB11.out.cell 3
          have a4 : v11.cell? ⟨p3, 4, none⟩ = some (.bool xT.ap) := HB11.out.cell 4
          go_wp2_with (fail)
          refine (holds_any A3 cA3 xT h v11 HO11.out HMM.out.x3 G11.out.tb).mono ?_; rintro e v12 ⟨rfl, hb⟩
          rw [hho]
          have G12 := Lib.hid (G11.out.below hb); have HB12 := Lib.hid (HB11.out.below hb HB11.out.lt); have HO12 := Lib.hid (HO11.out.below hb)
          clear hb a0 a1 a2 a3 a4 hho
          have hy3 := HMM.out.y3
          have a0 : v12.cell? ⟨p3, 0, none⟩ = some (.slice A3 xT.rs.length cA3) := HB12.out.cell 0
          have a1 : v12.cell? ⟨p3, 1, none⟩ = some (.int .i64 xT.ty) := HB12.out.cell 1
          have a2 : v12.cell? ⟨p3, 2, none⟩ = some (.string xT.ho) := HB12.out.cell 2
          have a3 : v12.cell? ⟨p3, 3, none⟩ = some (.int .u32 xT.ge) := HB12.out.cell 3
          have a4 : v12.cell? ⟨p3, 4, none⟩ = some (.bool xT.ap) := HB12.out.cell 4
          have hzz : (xT.ty == 1 + z) = true := by rw [hy3]; simp
          clear hy3
          go_wp2_with (fail)
          refine (may_any A3 cA3 xT h 3 v12 HO12.out HMM.out.x3 G12.out.tb).mono ?_; rintro e v13 ⟨rfl, hb⟩
          rw [hma]
          have G13 := Lib.hid (G12.out.below hb)
          clear hb a0 a1 a2 a3 a4 hma
          go_wp2_with (fail)
          refine (wakes_any v13 G13.out.tb).mono ?_; rintro e v14 ⟨rfl, hb⟩
          have G14 := Lib.hid (G13.out.below hb); clear hb
          go_wp2_with (fail)
          go_ret
          exact ⟨rfl, G14.out.bel⟩
end Go.Proofs.YtgekadfkokkapaaDoor
