/- What is reserved twice: the statement. -/
import Derived.Test.YtgekadfkokkapaaDoorReKp
namespace Go.Proofs.YtgekadfkokkapaaDoor
open Go.RowKit
theorem BxAt.again {w v v' : World} {A : Option Addr} {c : Nat} {t : Tl} {n : Nat} (h : BxAt w v A c t) (hl : Rgs w A t.rs) (ht : RTab w) (hb : Below n v v') (hn : w.heap.size < n) : BxAt w v' A c t := by
  have hbb : Below w.heap.size w v' := h.bel.trans (hb.mono (Nat.le_of_lt hn))
  exact ⟨h.b.below hb hn, hl.below hbb, ht.below hbb, hbb⟩
/-- The command of the statement. -/
def twM (op : Int) (h : ByteArray) (t : Tl) (y : Int) : Cm := ⟨op, 0, h, 0, 0, ⟨#[]⟩, false, none, 0, 0, keyR t.rs h, 0, 0, y, false, 0⟩
/-- What is reserved. -/
def twA (h : ByteArray) (t : Tl) (y : Int) : Tl := holdT t (twM 9 h t y)
structure TwM (h : ByteArray) (t : Tl) (y : Int) : Prop where
  hs : (twM 9 h t y).ho.size ≤ 1000
  t1 : doT t (twM 9 h t y) = twA h t y
  e1 : doE t (twM 9 h t y) = []
  c1 : doC t (twM 9 h t y) = 1
  sm : Small (twA h t y)
  t2 : doT (twA h t y) (twM 9 h t y) = twA h t y
  e2 : doE (twA h t y) (twM 9 h t y) = []
  c2 : doC (twA h t y) (twM 9 h t y) = 1
  t3 : doT (twA h t y) (twM 10 h t y) = t
  l3 : (doE (twA h t y) (twM 10 h t y)).length = if y < 3 then 0 else t.rs.length - 1
  c3 : doC (twA h t y) (twM 10 h t y) = 1
theorem twMath {h : ByteArray} {t : Tl} {y : Int} (hg : GoodP t) (hk : keyR t.rs h ≠ 0) (hty : t.ty = 0) (hy : 1 ≤ y ∧ y ≤ 6) : TwM h t y := by
  have hr : regB t.rs h = true := (keyR_pos hg.toRegsP).1 hk
  obtain ⟨x, hx, hxh⟩ := regB_iff.1 hr
  have hn : nameB h = true := by rw [← hxh]; exact hg.nm x hx
  have hho : t.ho = ⟨#[]⟩ := by
    rcases hg.hold with ⟨_, e⟩ | ⟨e, _⟩ | ⟨e, _⟩
    · exact e
    · omega
    · omega
  have hty6 : typeB y = true := type_iff.2 (by omega)
  have hgA : GoodP (twA h t y) := hold_good (m := twM 9 h t y) hg.toRegsP hty6 hr
  have hrd : regdB t (twM 9 h t y) = true := regd_iff.2 ⟨hk, rfl⟩
  have hrdA : ∀ op, regdB (twA h t y) (twM op h t y) = true := fun op => regd_iff.2 ⟨hk, rfl⟩
  have hg1 : doG t (twM 9 h t y) = true := doG_iff.2 ⟨⟨(by decide : (8 : Int) ≤ 9), (by decide : (9 : Int) ≤ 12)⟩, hg, hn⟩
  have hgA1 : ∀ op, 8 ≤ op ∧ op ≤ 12 → doG (twA h t y) (twM op h t y) = true := fun op ho => doG_iff.2 ⟨ho, hgA, hn⟩
  have hholds : holdsB (twA h t y) h = true := by
    apply holds_iff.2
    by_cases hs : shB y = true
    · exact .inr ⟨sh_iff.1 hs, hr⟩
    · exact .inl ⟨sh_of hty6 hs, by show h = (if shB y then _ else h); rw [if_neg hs]⟩
  have hh64 := (name_size hn).2
  have n8 : ¬ (9 : Int) = 8 := by decide
  refine ⟨by show h.size ≤ 1000; omega, ?_, ?_, ?_, hgA.small, ?_, ?_, ?_, ?_, ?_, ?_⟩
  · unfold doT
    rw [if_pos hg1]
    show resvT t (twM 9 h t y) = _
    unfold resvT
    rw [if_neg (by show ¬ typeB y = false; rw [hty6]; decide), if_neg (by rw [hrd]; decide), if_pos hty]
    rfl
  · unfold doE
    rw [if_pos hg1]
    rfl
  · unfold doC
    rw [if_pos hg1]
    show resvCode t (twM 9 h t y) = 1
    unfold resvCode
    rw [if_neg (by show ¬ typeB y = false; rw [hty6]; decide), if_neg (by rw [hrd]; decide), if_pos hty]
  · unfold doT
    rw [if_pos (hgA1 9 ⟨by decide, by decide⟩)]
    show resvT (twA h t y) (twM 9 h t y) = _
    unfold resvT
    rw [if_neg (by show ¬ typeB y = false; rw [hty6]; decide), if_neg (by rw [hrdA]; decide), if_neg (by show ¬ y = 0; omega)]
  · unfold doE
    rw [if_pos (hgA1 9 ⟨by decide, by decide⟩)]
    rfl
  · unfold doC
    rw [if_pos (hgA1 9 ⟨by decide, by decide⟩)]
    show resvCode (twA h t y) (twM 9 h t y) = 1
    unfold resvCode
    rw [if_neg (by show ¬ typeB y = false; rw [hty6]; decide), if_neg (by rw [hrdA]; decide), if_neg (by show ¬ y = 0; omega), if_pos]
    show (y == y && holdsB (twA h t y) h) = true
    rw [hholds, beq_self_eq_true]; rfl
  · have hb : relB (twA h t y) (twM 10 h t y) = true := by
      unfold relB
      rw [hrdA]
      show (holdsB (twA h t y) h && y == y) = true
      rw [hholds, beq_self_eq_true]; rfl
    unfold doT
    rw [if_pos (hgA1 10 ⟨by decide, by decide⟩)]
    show relT (twA h t y) (twM 10 h t y) = _
    unfold relT
    rw [if_pos hb]
    obtain ⟨rs, ty, ho, ge, ap⟩ := t
    subst hty hho
    rfl
  · have hb : relB (twA h t y) (twM 10 h t y) = true := by
      unfold relB
      rw [hrdA]
      show (holdsB (twA h t y) h && y == y) = true
      rw [hholds, beq_self_eq_true]; rfl
    unfold doE
    rw [if_pos (hgA1 10 ⟨by decide, by decide⟩)]
    show (relE (twA h t y) (twM 10 h t y) []).length = _
    unfold relE
    rw [if_pos hb]
    unfold endE
    by_cases h3 : y < 3
    · rw [if_pos h3, if_pos (by show y = 1 ∨ y = 2; omega)]; rfl
    · rw [if_neg h3, if_neg (by show ¬ (y = 1 ∨ y = 2); omega), List.nil_append]
      show (told 3 (isO (twM 10 h t y)) t.rs).length = _
      unfold told
      rw [List.length_map]
      have := others_length hg.un hr
      show (t.rs.filter (fun r => !eqS r.h h)).length = _
      omega
  · unfold doC
    rw [if_pos (hgA1 10 ⟨by decide, by decide⟩)]
    show relCode (twA h t y) (twM 10 h t y) = 1
    unfold relCode
    rw [if_neg (by rw [hrdA]; decide), if_neg (by show ¬ holdsB (twA h t y) h = false; rw [hholds]; decide), if_neg]
    show ¬ (y != y) = true
    simp
set_option maxRecDepth 100000 in
set_option maxHeartbeats 16000000 in
theorem twice_any (A : Option Addr) (c : Nat) (t : Tl) (h : ByteArray) (ty : Int) (w : World) (hl : Rgs w A t.rs) (hm : t.rs.length ≤ maxLen) (ht : RTab w) :
    Calls Tryd.prog 10 #[tlV A c t, .string h, .int .i64 ty] w fun e w' => e = .returned (.bool true) ∧ Below w.heap.size w w' := by
  have G0 := Lib.hid (BxAt.from w A c t hl ht); have HL0 := Lib.hid hl; have HT0 := Lib.hid ht
  have HM := Lib.hid hm
  have hnt := not_true
  have hnf := not_false
  clear hl hm ht
  go_enter Tryd.func10, Tryd.ntmps10
  go_upto_region 1 with (fail)
  change Code.wp _ _ _ _ (w.alloc (.cells (tlC A c t) 27))
  generalize w.alloc (.cells (tlC A c t) 27) = v0 at *
  have c0 : v0.cell? ⟨w.heap.size, 0, none⟩ = some (.slice A t.rs.length c) := G0.out.b.cell 0
  have c1 : v0.cell? ⟨w.heap.size, 1, none⟩ = some (.int .i64 t.ty) := G0.out.b.cell 1
  have c2 : v0.cell? ⟨w.heap.size, 2, none⟩ = some (.string t.ho) := G0.out.b.cell 2
  have c3 : v0.cell? ⟨w.heap.size, 3, none⟩ = some (.int .u32 t.ge) := G0.out.b.cell 3
  have c4 : v0.cell? ⟨w.heap.size, 4, none⟩ = some (.bool t.ap) := G0.out.b.cell 4
  go_wp2_with (fail)
  refine (largeX_any A c t _ G0.out.l HM.out).mono ?_; rintro e v1 ⟨r, rfl, hr, hb⟩
  have G1 := Lib.hid (G0.out.below hb)
  have HR := Lib.hid hr; clear hr
  clear hb c0 c1 c2 c3 c4
  cases r with
  | true =>
    have c0 : v1.cell? ⟨w.heap.size, 0, none⟩ = some (.slice A t.rs.length c) := G1.out.b.cell 0
    have c1 : v1.cell? ⟨w.heap.size, 1, none⟩ = some (.int .i64 t.ty) := G1.out.b.cell 1
    have c2 : v1.cell? ⟨w.heap.size, 2, none⟩ = some (.string t.ho) := G1.out.b.cell 2
    have c3 : v1.cell? ⟨w.heap.size, 3, none⟩ = some (.int .u32 t.ge) := G1.out.b.cell 3
    have c4 : v1.cell? ⟨w.heap.size, 4, none⟩ = some (.bool t.ap) := G1.out.b.cell 4
    go_wp2_with (fail)
    refine (wakes_any _ G1.out.tb).mono ?_; rintro e v2 ⟨rfl, hb⟩
    have G2 := Lib.hid (G1.out.below hb)
    clear hb c0 c1 c2 c3 c4
    go_wp2_with (fail)
    go_ret
    exact ⟨rfl, G2.out.bel⟩
  | false =>
    have HN := Lib.hid (HR.out rfl)
    have HG := Lib.hid (fun v (hl2 : Rgs v A t.rs) => refGood_any A c t v hl2 HM.out)
    have HK := Lib.hid (fun v (hl2 : Rgs v A t.rs) => refKey_any A c t h v hl2 HM.out)
    clear HR
    cases hg : goodB t with
    | false =>
      rw [hg] at HG
      clear hg
      have c0 : v1.cell? ⟨w.heap.size, 0, none⟩ = some (.slice A t.rs.length c) := G1.out.b.cell 0
      have c1 : v1.cell? ⟨w.heap.size, 1, none⟩ = some (.int .i64 t.ty) := G1.out.b.cell 1
      have c2 : v1.cell? ⟨w.heap.size, 2, none⟩ = some (.string t.ho) := G1.out.b.cell 2
      have c3 : v1.cell? ⟨w.heap.size, 3, none⟩ = some (.int .u32 t.ge) := G1.out.b.cell 3
      have c4 : v1.cell? ⟨w.heap.size, 4, none⟩ = some (.bool t.ap) := G1.out.b.cell 4
      go_wp2_with (fail)
      refine (HG.out _ G1.out.l).mono ?_; rintro e v2 ⟨rfl, hb⟩
      have G2 := Lib.hid (G1.out.below hb)
      clear hb c0 c1 c2 c3 c4
      have c0 : v2.cell? ⟨w.heap.size, 0, none⟩ = some (.slice A t.rs.length c) := G2.out.b.cell 0
      have c1 : v2.cell? ⟨w.heap.size, 1, none⟩ = some (.int .i64 t.ty) := G2.out.b.cell 1
      have c2 : v2.cell? ⟨w.heap.size, 2, none⟩ = some (.string t.ho) := G2.out.b.cell 2
      have c3 : v2.cell? ⟨w.heap.size, 3, none⟩ = some (.int .u32 t.ge) := G2.out.b.cell 3
      have c4 : v2.cell? ⟨w.heap.size, 4, none⟩ = some (.bool t.ap) := G2.out.b.cell 4
      go_wp2_with (fail)
      refine (wakes_any _ G2.out.tb).mono ?_; rintro e v3 ⟨rfl, hb⟩
      have G3 := Lib.hid (G2.out.below hb)
      clear hb c0 c1 c2 c3 c4
      go_wp2_with (fail)
      go_ret
      exact ⟨rfl, G3.out.bel⟩
    | true =>
      rw [hg] at HG
      have HGP := Lib.hid (goodB_iff.1 hg)
      clear hg
      cases hk : (keyR t.rs h == 0) with
      | true =>
        have c0 : v1.cell? ⟨w.heap.size, 0, none⟩ = some (.slice A t.rs.length c) := G1.out.b.cell 0
        have c1 : v1.cell? ⟨w.heap.size, 1, none⟩ = some (.int .i64 t.ty) := G1.out.b.cell 1
        have c2 : v1.cell? ⟨w.heap.size, 2, none⟩ = some (.string t.ho) := G1.out.b.cell 2
        have c3 : v1.cell? ⟨w.heap.size, 3, none⟩ = some (.int .u32 t.ge) := G1.out.b.cell 3
        have c4 : v1.cell? ⟨w.heap.size, 4, none⟩ = some (.bool t.ap) := G1.out.b.cell 4
        go_wp2_with (fail)
        refine (HG.out _ G1.out.l).mono ?_; rintro e v2 ⟨rfl, hb⟩
        have G2 := Lib.hid (G1.out.below hb)
        clear hb c0 c1 c2 c3 c4
        have c0 : v2.cell? ⟨w.heap.size, 0, none⟩ = some (.slice A t.rs.length c) := G2.out.b.cell 0
        have c1 : v2.cell? ⟨w.heap.size, 1, none⟩ = some (.int .i64 t.ty) := G2.out.b.cell 1
        have c2 : v2.cell? ⟨w.heap.size, 2, none⟩ = some (.string t.ho) := G2.out.b.cell 2
        have c3 : v2.cell? ⟨w.heap.size, 3, none⟩ = some (.int .u32 t.ge) := G2.out.b.cell 3
        have c4 : v2.cell? ⟨w.heap.size, 4, none⟩ = some (.bool t.ap) := G2.out.b.cell 4
        go_wp2_with (fail)
        refine (HK.out _ G2.out.l).mono ?_; rintro e v3 ⟨rfl, hb⟩
        have G3 := Lib.hid (G2.out.below hb)
        clear hb c0 c1 c2 c3 c4
        have c0 : v3.cell? ⟨w.heap.size, 0, none⟩ = some (.slice A t.rs.length c) := G3.out.b.cell 0
        have c1 : v3.cell? ⟨w.heap.size, 1, none⟩ = some (.int .i64 t.ty) := G3.out.b.cell 1
        have c2 : v3.cell? ⟨w.heap.size, 2, none⟩ = some (.string t.ho) := G3.out.b.cell 2
        have c3 : v3.cell? ⟨w.heap.size, 3, none⟩ = some (.int .u32 t.ge) := G3.out.b.cell 3
        have c4 : v3.cell? ⟨w.heap.size, 4, none⟩ = some (.bool t.ap) := G3.out.b.cell 4
        go_wp2_with (fail)
        refine (wakes_any _ G3.out.tb).mono ?_; rintro e v4 ⟨rfl, hb⟩
        have G4 := Lib.hid (G3.out.below hb)
        clear hb c0 c1 c2 c3 c4
        go_wp2_with (fail)
        go_ret
        exact ⟨rfl, G4.out.bel⟩
      | false =>
        cases hy : (t.ty == 0) with
        | false =>
          have hy' : (t.ty != 0) = true := by simp [bne, hy]
          have c0 : v1.cell? ⟨w.heap.size, 0, none⟩ = some (.slice A t.rs.length c) := G1.out.b.cell 0
          have c1 : v1.cell? ⟨w.heap.size, 1, none⟩ = some (.int .i64 t.ty) := G1.out.b.cell 1
          have c2 : v1.cell? ⟨w.heap.size, 2, none⟩ = some (.string t.ho) := G1.out.b.cell 2
          have c3 : v1.cell? ⟨w.heap.size, 3, none⟩ = some (.int .u32 t.ge) := G1.out.b.cell 3
          have c4 : v1.cell? ⟨w.heap.size, 4, none⟩ = some (.bool t.ap) := G1.out.b.cell 4
          go_wp2_with (fail)
          refine (HG.out _ G1.out.l).mono ?_; rintro e v2 ⟨rfl, hb⟩
          have G2 := Lib.hid (G1.out.below hb)
          clear hb c0 c1 c2 c3 c4
          have c0 : v2.cell? ⟨w.heap.size, 0, none⟩ = some (.slice A t.rs.length c) := G2.out.b.cell 0
          have c1 : v2.cell? ⟨w.heap.size, 1, none⟩ = some (.int .i64 t.ty) := G2.out.b.cell 1
          have c2 : v2.cell? ⟨w.heap.size, 2, none⟩ = some (.string t.ho) := G2.out.b.cell 2
          have c3 : v2.cell? ⟨w.heap.size, 3, none⟩ = some (.int .u32 t.ge) := G2.out.b.cell 3
          have c4 : v2.cell? ⟨w.heap.size, 4, none⟩ = some (.bool t.ap) := G2.out.b.cell 4
          go_wp2_with (fail)
          refine (HK.out _ G2.out.l).mono ?_; rintro e v3 ⟨rfl, hb⟩
          have G3 := Lib.hid (G2.out.below hb)
          clear hb c0 c1 c2 c3 c4
          have c0 : v3.cell? ⟨w.heap.size, 0, none⟩ = some (.slice A t.rs.length c) := G3.out.b.cell 0
          have c1 : v3.cell? ⟨w.heap.size, 1, none⟩ = some (.int .i64 t.ty) := G3.out.b.cell 1
          have c2 : v3.cell? ⟨w.heap.size, 2, none⟩ = some (.string t.ho) := G3.out.b.cell 2
          have c3 : v3.cell? ⟨w.heap.size, 3, none⟩ = some (.int .u32 t.ge) := G3.out.b.cell 3
          have c4 : v3.cell? ⟨w.heap.size, 4, none⟩ = some (.bool t.ap) := G3.out.b.cell 4
          go_wp2_with (fail)
          refine (wakes_any _ G3.out.tb).mono ?_; rintro e v4 ⟨rfl, hb⟩
          have G4 := Lib.hid (G3.out.below hb)
          clear hb c0 c1 c2 c3 c4
          go_wp2_with (fail)
          go_ret
          exact ⟨rfl, G4.out.bel⟩
        | true =>
          have hy' : (t.ty != 0) = false := by simp [bne, hy]
          have c0 : v1.cell? ⟨w.heap.size, 0, none⟩ = some (.slice A t.rs.length c) := G1.out.b.cell 0
          have c1 : v1.cell? ⟨w.heap.size, 1, none⟩ = some (.int .i64 t.ty) := G1.out.b.cell 1
          have c2 : v1.cell? ⟨w.heap.size, 2, none⟩ = some (.string t.ho) := G1.out.b.cell 2
          have c3 : v1.cell? ⟨w.heap.size, 3, none⟩ = some (.int .u32 t.ge) := G1.out.b.cell 3
          have c4 : v1.cell? ⟨w.heap.size, 4, none⟩ = some (.bool t.ap) := G1.out.b.cell 4
          go_wp2_with (fail)
          refine (HG.out _ G1.out.l).mono ?_; rintro e v2 ⟨rfl, hb⟩
          have G2 := Lib.hid (G1.out.below hb)
          clear hb c0 c1 c2 c3 c4
          have c0 : v2.cell? ⟨w.heap.size, 0, none⟩ = some (.slice A t.rs.length c) := G2.out.b.cell 0
          have c1 : v2.cell? ⟨w.heap.size, 1, none⟩ = some (.int .i64 t.ty) := G2.out.b.cell 1
          have c2 : v2.cell? ⟨w.heap.size, 2, none⟩ = some (.string t.ho) := G2.out.b.cell 2
          have c3 : v2.cell? ⟨w.heap.size, 3, none⟩ = some (.int .u32 t.ge) := G2.out.b.cell 3
          have c4 : v2.cell? ⟨w.heap.size, 4, none⟩ = some (.bool t.ap) := G2.out.b.cell 4
          go_wp2_with (fail)
          refine (HK.out _ G2.out.l).mono ?_; rintro e v3 ⟨rfl, hb⟩
          have G3 := Lib.hid (G2.out.below hb)
          clear hb c0 c1 c2 c3 c4
          have c0 : v3.cell? ⟨w.heap.size, 0, none⟩ = some (.slice A t.rs.length c) := G3.out.b.cell 0
          have c1 : v3.cell? ⟨w.heap.size, 1, none⟩ = some (.int .i64 t.ty) := G3.out.b.cell 1
          have c2 : v3.cell? ⟨w.heap.size, 2, none⟩ = some (.string t.ho) := G3.out.b.cell 2
          have c3 : v3.cell? ⟨w.heap.size, 3, none⟩ = some (.int .u32 t.ge) := G3.out.b.cell 3
          have c4 : v3.cell? ⟨w.heap.size, 4, none⟩ = some (.bool t.ap) := G3.out.b.cell 4
          go_wp2_with (fail)
          refine (HK.out _ G3.out.l).mono ?_; rintro e v4 ⟨rfl, hb⟩
          have G4 := Lib.hid (G3.out.below hb)
          clear hb c0 c1 c2 c3 c4
          have HTY := Lib.hid (eqB hy); have Hln := Lib.hid (pos_of_reg ((keyR_pos HGP.out.toRegsP).1 (neB hk)))
          have HKN := Lib.hid (neB hk)
          clear hy hy' hk
          go_wp2_with (fail)
          obtain ⟨z, hz, hz0, hz6⟩ : ∃ z : Int, z = ty % 6 ∧ 0 ≤ z ∧ z < 6 := ⟨_, rfl, by omega, by omega⟩
          have hmo := mod_any ty 6 (by decide) (by decide) v4
          rw [show ((6 : Nat) : Int) = 6 from rfl, ← hz] at hmo
          have hwz : IntKind.i64.wrap (1 + z) = 1 + z := i64w _ (by omega)
          refine hmo.mono ?_; rintro e v4' ⟨rfl, rfl⟩
          clear hmo hz
          have k5 : ∀ v : World, (Instr.build 37 #[(0, .int .i64 9), (2, .string h), (8, .int .u64 (keyR t.rs h)), (11, .int .i64 (1 + z))]).run Tryd.prog v = .ok (cmV (twM 9 h t (1 + z))) v := fun _ => by kernel_rfl
          go_upto_region 4 with (fail)
          change Code.wp _ _ _ _ (v4.alloc (.cells (cmC (twM 9 h t (1 + z))) 37))
          have HMM := twMath HGP.out HKN.out HTY.out (show 1 ≤ 1 + z ∧ 1 + z ≤ 6 by omega)
          have hal := (Below.refl v4.heap.size v4).alloc (Nat.le_refl _) (.cells (cmC (twM 9 h t (1 + z))) 37)
          have HCM := Lib.hid (Blk.new v4 37 (cmC (twM 9 h t (1 + z)))); have G5 := Lib.hid (G4.out.below hal)
          obtain ⟨pm, hpm⟩ : ∃ pm, pm = v4.heap.size := ⟨_, rfl⟩
          have HPW := Lib.hid (show w.heap.size < pm by rw [hpm]; exact G4.out.b.lt)
          rw [← hpm] at HCM ⊢
          clear hal hpm k5 hwz
          obtain ⟨HMhs, HMt1, HMe1, HMc1, HMsm, HMt2, HMe2, HMc2, HMt3, HMl3, HMc3⟩ := HMM
          have hge : (twA h t (1 + z)).ge = t.ge := rfl
          have HZ := Lib.hid (And.intro hz0 hz6)
          generalize twA h t (1 + z) = u at *
          generalize hev : doE u (twM 10 h t (1 + z)) = ev at *
          have Hhs := Lib.hid HMhs; have Ht1 := Lib.hid HMt1; have He1 := Lib.hid HMe1; have Hc1 := Lib.hid HMc1; have Hsm := Lib.hid HMsm; have Ht2 := Lib.hid HMt2; have He2 := Lib.hid HMe2; have Hc2 := Lib.hid HMc2; have Ht3 := Lib.hid HMt3; have Hev := Lib.hid hev; have Hl3 := Lib.hid HMl3; have Hc3 := Lib.hid HMc3; have Hge := Lib.hid hge
          clear HMhs HMt1 HMe1 HMc1 HMsm HMt2 HMe2 HMc2 HMt3 HMl3 HMc3 hev hge hz0 hz6
          generalize v4.alloc (.cells (cmC (twM 9 h t (1 + z))) 37) = v5 at *
          have HBx0 := Lib.hid (show Below v5.heap.size v5 v5.drew from (Below.refl _ _).drew)
          refine wp_region_any (by kernel_rfl) ?_
          change wpAny _ _ _ _ _ _ _ (World.drew v5)
          rename_i KRx hKRx
          generalize v5.drew = x0 at *
          apply share8 (DoBox v5 (u) ([]))
          · intro HSH
            refine wpAny_ready (rs := [0, 2, 8]) (by kernel_rfl) (by simp) ?_
            refine AllReady.cons rfl (fun KK hKK => ?_) ?_
            · skip
              refine step_load (by rfl) 27 (.tmp 3) (by rfl) w.heap.size (by rfl) 27 (tlC A c t) ((G5.out.b).below HBx0.out (G5.out.b).lt) _ Tryd.underlying27 rfl size27 (some 47) rfl ?_
              refine hKK _ _ ?_; clear hKK KK; simp only [Act.put, List.setIfInBounds_toArray, List.set_cons_zero, List.set_cons_succ]
              refine wpAny_ready (rs := [1, 2, 8]) (by kernel_rfl) (by simp) ?_
              refine AllReady.cons rfl (fun KK hKK => ?_) ?_
              · skip
                refine step_call1 (by rfl) 13 (.tmp 47) _ (by rfl) (tlV A c t) (by rfl) (fun _ _ => rfl) _ (copy_any A c t x0 ((G5.out.l).below HBx0.out) (Nat.le_trans (HN.out).1 (by decide))) (some 48) rfl ?_
                rintro e x1 ⟨A5, c5, rfl, ho5, hb⟩
                refine ⟨_, rfl, ?_⟩
                have HBx1 := Lib.hid ((HBx0.out).trans (hb.mono (HBx0.out).size)); have HC1 := Lib.hid ho5.rgs
                clear hb ho5; refine hKK _ _ ?_; clear hKK KK; simp only [Act.put, List.setIfInBounds_toArray, List.set_cons_zero, List.set_cons_succ]
                refine wpAny_ready (rs := [2, 8]) (by kernel_rfl) (by simp) ?_
                refine AllReady.cons rfl (fun KK hKK => ?_) ?_
                · skip
                  refine step_load (by rfl) 37 (.tmp 7) (by rfl) pm (by rfl) 37 (cmC (twM 9 h t (1 + z))) ((HCM.out).below HBx1.out (HCM.out).lt) _ Tryd.underlying37 rfl size37 (some 49) rfl ?_
                  refine hKK _ _ ?_; clear hKK KK; simp only [Act.put, List.setIfInBounds_toArray, List.set_cons_zero, List.set_cons_succ]
                  refine wpAny_ready (rs := [3, 8]) (by kernel_rfl) (by simp) ?_
                  refine AllReady.cons rfl (fun KK hKK => ?_) ?_
                  · skip
                    refine step_call2 (by rfl) 22 (.tmp 48) (.tmp 49) _ (by rfl) (tlV A5 c5 t) (cmV (twM 9 h t (1 + z))) (by rfl) (by rfl) (fun _ _ => rfl) _ (do_as (w := x1) HC1.out (HN.out) (Hhs.out) ((G5.out.tb).below HBx1.out) (Ht1.out) (He1.out) (Hc1.out)) (some 50) rfl ?_
                    rintro e x2 ⟨A6, c6, B6, e6, rfl, ho6, he6, hb⟩
                    refine ⟨_, rfl, ?_⟩
                    have HBx2 := Lib.hid ((HBx1.out).trans (hb.mono (HBx1.out).size)); have HO2 := Lib.hid (Own.base ho6 (HBx1.out).size); have HE2 := Lib.hid (OwnE.base he6 (HBx1.out).size)
                    clear hb ho6 he6; refine hKK _ _ ?_; clear hKK KK; simp only [Act.put, List.setIfInBounds_toArray, List.set_cons_zero, List.set_cons_succ]
                    refine take_at (i := 4) (v := ?_) rfl (by kernel_rfl) (by kernel_rfl) (by kernel_rfl) (fun _ _ _ h => h) (some 46) rfl (Or.inl ⟨by rfl, ?_⟩) ?_
                    rotate_left 1
                    · intro w; go_simp; try with_reducible rfl
                    simp only [Act.put, List.setIfInBounds_toArray, List.set_cons_zero, List.set_cons_succ]
                    refine take_at (i := 5) (v := ?_) rfl (by kernel_rfl) (by kernel_rfl) (by kernel_rfl) (fun _ _ _ h => h) (some 51) rfl (Or.inl ⟨by rfl, ?_⟩) ?_
                    rotate_left 1
                    · intro w; go_simp; try with_reducible rfl
                    simp only [Act.put, List.setIfInBounds_toArray, List.set_cons_zero, List.set_cons_succ]
                    refine take_at (i := 6) (v := ?_) rfl (by kernel_rfl) (by kernel_rfl) (by kernel_rfl) (fun _ _ _ h => h) (some 52) rfl (Or.inl ⟨by rfl, ?_⟩) ?_
                    rotate_left 1
                    · intro w; go_simp; try with_reducible rfl
                    simp only [Act.put, List.setIfInBounds_toArray, List.set_cons_zero, List.set_cons_succ]
                    refine take_at (i := 7) (v := ?_) rfl (by kernel_rfl) (by kernel_rfl) (by kernel_rfl) (fun _ _ _ h => h) (some 53) rfl (Or.inl ⟨by rfl, ?_⟩) ?_
                    rotate_left 1
                    · intro w; go_simp; try with_reducible rfl
                    simp only [Act.put, List.setIfInBounds_toArray, List.set_cons_zero, List.set_cons_succ]
                    refine wpAny_ready (rs := [8]) (by kernel_rfl) (by simp) ?_
                    refine AllReady.cons rfl (fun KK hKK => ?_) ?_
                    · skip
                      go_simp
                      refine hKK _ _ ?_; clear hKK KK; try simp only [Act.put, List.setIfInBounds_toArray, List.set_cons_zero, List.set_cons_succ]
                      change wpAny _ _ _ _ _ _ _ (x2.alloc (.cells tlZ 27))
                      have hal := (Below.refl x2.heap.size x2).alloc (Nat.le_refl _) (.cells tlZ 27)
                      have HBx3 := Lib.hid ((HBx2.out).trans (hal.mono (HBx2.out).size)); have HP3 := Lib.hid (Blk.new x2 27 tlZ); have HQ := Lib.hid ((HBx2.out).size)
                      have HO3 := Lib.hid (HO2.out.below hal); have HE3 := Lib.hid (HE2.out.below hal)
                      clear hal
                      generalize x2.alloc (.cells tlZ 27) = x3 at *
                      obtain ⟨p, hp⟩ : ∃ p, p = x2.heap.size := ⟨_, rfl⟩
                      rw [← hp] at HP3 HQ ⊢; clear hp
                      refine wpAny_ready (rs := [9]) (by kernel_rfl) (by simp) ?_
                      refine AllReady.cons rfl (fun KK hKK => ?_) AllReady.nil
                      refine step_store (by rfl) 27 (.tmp 8) (.tmp 51) (by rfl) _ (tlC A6 c6 (u)) (by rfl) (by rfl) 27 tlZ HP3.out size27 rfl (tlC_one ..) none rfl ?_
                      intro v hbk hon
                      have HX := DoBox.made (A5 := A5) (c5 := c5) HBx3.out HQ.out HP3.out HO3.out HE3.out hbk hon
                      clear hbk hon; refine hKK _ _ ?_; clear hKK KK; simp only [Act.put]
                      refine take_at (i := 10) (v := ?_) rfl (by kernel_rfl) (by kernel_rfl) (by kernel_rfl) (fun _ _ _ h => h) (some 9) rfl (Or.inl ⟨by rfl, ?_⟩) ?_
                      rotate_left 1
                      · intro w; go_simp; try with_reducible rfl
                      simp only [Act.put, List.setIfInBounds_toArray, List.set_cons_zero, List.set_cons_succ]
                      refine take_at (i := 11) (v := ?_) rfl (by kernel_rfl) (by kernel_rfl) (by kernel_rfl) (fun _ _ _ h => h) (some 10) rfl (Or.inl ⟨by rfl, ?_⟩) ?_
                      rotate_left 1
                      · intro w; go_simp; try with_reducible rfl
                      simp only [Act.put, List.setIfInBounds_toArray, List.set_cons_zero, List.set_cons_succ]
                      refine wpAny_done (by kernel_rfl) ?_ _
                      exact HSH _ _ _ _ _ _ _ _ HX
                    exact AllReady.nil
                  refine AllReady.cons rfl (fun KK hKK => ?_) ?_
                  · skip
                    go_simp
                    refine hKK _ _ ?_; clear hKK KK; try simp only [Act.put, List.setIfInBounds_toArray, List.set_cons_zero, List.set_cons_succ]
                    change wpAny _ _ _ _ _ _ _ (x1.alloc (.cells tlZ 27))
                    have hal := (Below.refl x1.heap.size x1).alloc (Nat.le_refl _) (.cells tlZ 27)
                    have HBx5 := Lib.hid ((HBx1.out).trans (hal.mono (HBx1.out).size)); have HP5 := Lib.hid (Blk.new x1 27 tlZ); have HQ := Lib.hid ((HBx1.out).size)
                    have HC5 := Lib.hid (HC1.out.below hal)
                    clear hal
                    generalize x1.alloc (.cells tlZ 27) = x5 at *
                    obtain ⟨p, hp⟩ : ∃ p, p = x1.heap.size := ⟨_, rfl⟩
                    rw [← hp] at HP5 HQ ⊢; clear hp
                    refine wpAny_ready (rs := [3]) (by kernel_rfl) (by simp) ?_
                    refine AllReady.cons rfl (fun KK hKK => ?_) ?_
                    · skip
                      refine step_call2 (by rfl) 22 (.tmp 48) (.tmp 49) _ (by rfl) (tlV A5 c5 t) (cmV (twM 9 h t (1 + z))) (by rfl) (by rfl) (fun _ _ => rfl) _ (do_as (w := x5) HC5.out (HN.out) (Hhs.out) ((G5.out.tb).below HBx5.out) (Ht1.out) (He1.out) (Hc1.out)) (some 50) rfl ?_
                      rintro e x6 ⟨A6, c6, B6, e6, rfl, ho6, he6, hb⟩
                      refine ⟨_, rfl, ?_⟩
                      have HBx6 := Lib.hid ((HBx5.out).trans (hb.mono (HBx5.out).size)); have HO6 := Lib.hid (Own.base ho6 (HBx5.out).size); have HE6 := Lib.hid (OwnE.base he6 (HBx5.out).size)
                      have HP6 := Lib.hid (HP5.out.below hb HP5.out.lt)
                      clear hb ho6 he6; refine hKK _ _ ?_; clear hKK KK; simp only [Act.put, List.setIfInBounds_toArray, List.set_cons_zero, List.set_cons_succ]
                      refine take_at (i := 4) (v := ?_) rfl (by kernel_rfl) (by kernel_rfl) (by kernel_rfl) (fun _ _ _ h => h) (some 46) rfl (Or.inl ⟨by rfl, ?_⟩) ?_
                      rotate_left 1
                      · intro w; go_simp; try with_reducible rfl
                      simp only [Act.put, List.setIfInBounds_toArray, List.set_cons_zero, List.set_cons_succ]
                      refine take_at (i := 5) (v := ?_) rfl (by kernel_rfl) (by kernel_rfl) (by kernel_rfl) (fun _ _ _ h => h) (some 51) rfl (Or.inl ⟨by rfl, ?_⟩) ?_
                      rotate_left 1
                      · intro w; go_simp; try with_reducible rfl
                      simp only [Act.put, List.setIfInBounds_toArray, List.set_cons_zero, List.set_cons_succ]
                      refine take_at (i := 6) (v := ?_) rfl (by kernel_rfl) (by kernel_rfl) (by kernel_rfl) (fun _ _ _ h => h) (some 52) rfl (Or.inl ⟨by rfl, ?_⟩) ?_
                      rotate_left 1
                      · intro w; go_simp; try with_reducible rfl
                      simp only [Act.put, List.setIfInBounds_toArray, List.set_cons_zero, List.set_cons_succ]
                      refine take_at (i := 7) (v := ?_) rfl (by kernel_rfl) (by kernel_rfl) (by kernel_rfl) (fun _ _ _ h => h) (some 53) rfl (Or.inl ⟨by rfl, ?_⟩) ?_
                      rotate_left 1
                      · intro w; go_simp; try with_reducible rfl
                      simp only [Act.put, List.setIfInBounds_toArray, List.set_cons_zero, List.set_cons_succ]
                      refine wpAny_ready (rs := [9]) (by kernel_rfl) (by simp) ?_
                      refine AllReady.cons rfl (fun KK hKK => ?_) AllReady.nil
                      refine step_store (by rfl) 27 (.tmp 8) (.tmp 51) (by rfl) _ (tlC A6 c6 (u)) (by rfl) (by rfl) 27 tlZ HP6.out size27 rfl (tlC_one ..) none rfl ?_
                      intro v hbk hon
                      have HX := DoBox.made (A5 := A5) (c5 := c5) HBx6.out HQ.out HP6.out HO6.out HE6.out hbk hon
                      clear hbk hon; refine hKK _ _ ?_; clear hKK KK; simp only [Act.put]
                      refine take_at (i := 10) (v := ?_) rfl (by kernel_rfl) (by kernel_rfl) (by kernel_rfl) (fun _ _ _ h => h) (some 9) rfl (Or.inl ⟨by rfl, ?_⟩) ?_
                      rotate_left 1
                      · intro w; go_simp; try with_reducible rfl
                      simp only [Act.put, List.setIfInBounds_toArray, List.set_cons_zero, List.set_cons_succ]
                      refine take_at (i := 11) (v := ?_) rfl (by kernel_rfl) (by kernel_rfl) (by kernel_rfl) (fun _ _ _ h => h) (some 10) rfl (Or.inl ⟨by rfl, ?_⟩) ?_
                      rotate_left 1
                      · intro w; go_simp; try with_reducible rfl
                      simp only [Act.put, List.setIfInBounds_toArray, List.set_cons_zero, List.set_cons_succ]
                      refine wpAny_done (by kernel_rfl) ?_ _
                      exact HSH _ _ _ _ _ _ _ _ HX
                    exact AllReady.nil
                  exact AllReady.nil
                refine AllReady.cons rfl (fun KK hKK => ?_) ?_
                · skip
                  go_simp
                  refine hKK _ _ ?_; clear hKK KK; try simp only [Act.put, List.setIfInBounds_toArray, List.set_cons_zero, List.set_cons_succ]
                  change wpAny _ _ _ _ _ _ _ (x1.alloc (.cells tlZ 27))
                  have hal := (Below.refl x1.heap.size x1).alloc (Nat.le_refl _) (.cells tlZ 27)
                  have HBx8 := Lib.hid ((HBx1.out).trans (hal.mono (HBx1.out).size)); have HP8 := Lib.hid (Blk.new x1 27 tlZ); have HQ := Lib.hid ((HBx1.out).size)
                  have HC8 := Lib.hid (HC1.out.below hal)
                  clear hal
                  generalize x1.alloc (.cells tlZ 27) = x8 at *
                  obtain ⟨p, hp⟩ : ∃ p, p = x1.heap.size := ⟨_, rfl⟩
                  rw [← hp] at HP8 HQ ⊢; clear hp
                  refine wpAny_ready (rs := [2]) (by kernel_rfl) (by simp) ?_
                  refine AllReady.cons rfl (fun KK hKK => ?_) ?_
                  · skip
                    refine step_load (by rfl) 37 (.tmp 7) (by rfl) pm (by rfl) 37 (cmC (twM 9 h t (1 + z))) ((HCM.out).below HBx8.out (HCM.out).lt) _ Tryd.underlying37 rfl size37 (some 49) rfl ?_
                    refine hKK _ _ ?_; clear hKK KK; simp only [Act.put, List.setIfInBounds_toArray, List.set_cons_zero, List.set_cons_succ]
                    refine wpAny_ready (rs := [3]) (by kernel_rfl) (by simp) ?_
                    refine AllReady.cons rfl (fun KK hKK => ?_) ?_
                    · skip
                      refine step_call2 (by rfl) 22 (.tmp 48) (.tmp 49) _ (by rfl) (tlV A5 c5 t) (cmV (twM 9 h t (1 + z))) (by rfl) (by rfl) (fun _ _ => rfl) _ (do_as (w := x8) HC8.out (HN.out) (Hhs.out) ((G5.out.tb).below HBx8.out) (Ht1.out) (He1.out) (Hc1.out)) (some 50) rfl ?_
                      rintro e x9 ⟨A6, c6, B6, e6, rfl, ho6, he6, hb⟩
                      refine ⟨_, rfl, ?_⟩
                      have HBx9 := Lib.hid ((HBx8.out).trans (hb.mono (HBx8.out).size)); have HO9 := Lib.hid (Own.base ho6 (HBx8.out).size); have HE9 := Lib.hid (OwnE.base he6 (HBx8.out).size)
                      have HP9 := Lib.hid (HP8.out.below hb HP8.out.lt)
                      clear hb ho6 he6; refine hKK _ _ ?_; clear hKK KK; simp only [Act.put, List.setIfInBounds_toArray, List.set_cons_zero, List.set_cons_succ]
                      refine take_at (i := 4) (v := ?_) rfl (by kernel_rfl) (by kernel_rfl) (by kernel_rfl) (fun _ _ _ h => h) (some 46) rfl (Or.inl ⟨by rfl, ?_⟩) ?_
                      rotate_left 1
                      · intro w; go_simp; try with_reducible rfl
                      simp only [Act.put, List.setIfInBounds_toArray, List.set_cons_zero, List.set_cons_succ]
                      refine take_at (i := 5) (v := ?_) rfl (by kernel_rfl) (by kernel_rfl) (by kernel_rfl) (fun _ _ _ h => h) (some 51) rfl (Or.inl ⟨by rfl, ?_⟩) ?_
                      rotate_left 1
                      · intro w; go_simp; try with_reducible rfl
                      simp only [Act.put, List.setIfInBounds_toArray, List.set_cons_zero, List.set_cons_succ]
                      refine take_at (i := 6) (v := ?_) rfl (by kernel_rfl) (by kernel_rfl) (by kernel_rfl) (fun _ _ _ h => h) (some 52) rfl (Or.inl ⟨by rfl, ?_⟩) ?_
                      rotate_left 1
                      · intro w; go_simp; try with_reducible rfl
                      simp only [Act.put, List.setIfInBounds_toArray, List.set_cons_zero, List.set_cons_succ]
                      refine take_at (i := 7) (v := ?_) rfl (by kernel_rfl) (by kernel_rfl) (by kernel_rfl) (fun _ _ _ h => h) (some 53) rfl (Or.inl ⟨by rfl, ?_⟩) ?_
                      rotate_left 1
                      · intro w; go_simp; try with_reducible rfl
                      simp only [Act.put, List.setIfInBounds_toArray, List.set_cons_zero, List.set_cons_succ]
                      refine wpAny_ready (rs := [9]) (by kernel_rfl) (by simp) ?_
                      refine AllReady.cons rfl (fun KK hKK => ?_) AllReady.nil
                      refine step_store (by rfl) 27 (.tmp 8) (.tmp 51) (by rfl) _ (tlC A6 c6 (u)) (by rfl) (by rfl) 27 tlZ HP9.out size27 rfl (tlC_one ..) none rfl ?_
                      intro v hbk hon
                      have HX := DoBox.made (A5 := A5) (c5 := c5) HBx9.out HQ.out HP9.out HO9.out HE9.out hbk hon
                      clear hbk hon; refine hKK _ _ ?_; clear hKK KK; simp only [Act.put]
                      refine take_at (i := 10) (v := ?_) rfl (by kernel_rfl) (by kernel_rfl) (by kernel_rfl) (fun _ _ _ h => h) (some 9) rfl (Or.inl ⟨by rfl, ?_⟩) ?_
                      rotate_left 1
                      · intro w; go_simp; try with_reducible rfl
                      simp only [Act.put, List.setIfInBounds_toArray, List.set_cons_zero, List.set_cons_succ]
                      refine take_at (i := 11) (v := ?_) rfl (by kernel_rfl) (by kernel_rfl) (by kernel_rfl) (fun _ _ _ h => h) (some 10) rfl (Or.inl ⟨by rfl, ?_⟩) ?_
                      rotate_left 1
                      · intro w; go_simp; try with_reducible rfl
                      simp only [Act.put, List.setIfInBounds_toArray, List.set_cons_zero, List.set_cons_succ]
                      refine wpAny_done (by kernel_rfl) ?_ _
                      exact HSH _ _ _ _ _ _ _ _ HX
                    exact AllReady.nil
                  exact AllReady.nil
                exact AllReady.nil
              refine AllReady.cons rfl (fun KK hKK => ?_) ?_
              · skip
                refine step_load (by rfl) 37 (.tmp 7) (by rfl) pm (by rfl) 37 (cmC (twM 9 h t (1 + z))) ((HCM.out).below HBx0.out (HCM.out).lt) _ Tryd.underlying37 rfl size37 (some 49) rfl ?_
                refine hKK _ _ ?_; clear hKK KK; simp only [Act.put, List.setIfInBounds_toArray, List.set_cons_zero, List.set_cons_succ]
                refine wpAny_ready (rs := [1, 8]) (by kernel_rfl) (by simp) ?_
                refine AllReady.cons rfl (fun KK hKK => ?_) ?_
                · skip
                  refine step_call1 (by rfl) 13 (.tmp 47) _ (by rfl) (tlV A c t) (by rfl) (fun _ _ => rfl) _ (copy_any A c t x0 ((G5.out.l).below HBx0.out) (Nat.le_trans (HN.out).1 (by decide))) (some 48) rfl ?_
                  rintro e x11 ⟨A5, c5, rfl, ho5, hb⟩
                  refine ⟨_, rfl, ?_⟩
                  have HBx11 := Lib.hid ((HBx0.out).trans (hb.mono (HBx0.out).size)); have HC11 := Lib.hid ho5.rgs
                  clear hb ho5; refine hKK _ _ ?_; clear hKK KK; simp only [Act.put, List.setIfInBounds_toArray, List.set_cons_zero, List.set_cons_succ]
                  refine wpAny_ready (rs := [3, 8]) (by kernel_rfl) (by simp) ?_
                  refine AllReady.cons rfl (fun KK hKK => ?_) ?_
                  · skip
                    refine step_call2 (by rfl) 22 (.tmp 48) (.tmp 49) _ (by rfl) (tlV A5 c5 t) (cmV (twM 9 h t (1 + z))) (by rfl) (by rfl) (fun _ _ => rfl) _ (do_as (w := x11) HC11.out (HN.out) (Hhs.out) ((G5.out.tb).below HBx11.out) (Ht1.out) (He1.out) (Hc1.out)) (some 50) rfl ?_
                    rintro e x12 ⟨A6, c6, B6, e6, rfl, ho6, he6, hb⟩
                    refine ⟨_, rfl, ?_⟩
                    have HBx12 := Lib.hid ((HBx11.out).trans (hb.mono (HBx11.out).size)); have HO12 := Lib.hid (Own.base ho6 (HBx11.out).size); have HE12 := Lib.hid (OwnE.base he6 (HBx11.out).size)
                    clear hb ho6 he6; refine hKK _ _ ?_; clear hKK KK; simp only [Act.put, List.setIfInBounds_toArray, List.set_cons_zero, List.set_cons_succ]
                    refine take_at (i := 4) (v := ?_) rfl (by kernel_rfl) (by kernel_rfl) (by kernel_rfl) (fun _ _ _ h => h) (some 46) rfl (Or.inl ⟨by rfl, ?_⟩) ?_
                    rotate_left 1
                    · intro w; go_simp; try with_reducible rfl
                    simp only [Act.put, List.setIfInBounds_toArray, List.set_cons_zero, List.set_cons_succ]
                    refine take_at (i := 5) (v := ?_) rfl (by kernel_rfl) (by kernel_rfl) (by kernel_rfl) (fun _ _ _ h => h) (some 51) rfl (Or.inl ⟨by rfl, ?_⟩) ?_
                    rotate_left 1
                    · intro w; go_simp; try with_reducible rfl
                    simp only [Act.put, List.setIfInBounds_toArray, List.set_cons_zero, List.set_cons_succ]
                    refine take_at (i := 6) (v := ?_) rfl (by kernel_rfl) (by kernel_rfl) (by kernel_rfl) (fun _ _ _ h => h) (some 52) rfl (Or.inl ⟨by rfl, ?_⟩) ?_
                    rotate_left 1
                    · intro w; go_simp; try with_reducible rfl
                    simp only [Act.put, List.setIfInBounds_toArray, List.set_cons_zero, List.set_cons_succ]
                    refine take_at (i := 7) (v := ?_) rfl (by kernel_rfl) (by kernel_rfl) (by kernel_rfl) (fun _ _ _ h => h) (some 53) rfl (Or.inl ⟨by rfl, ?_⟩) ?_
                    rotate_left 1
                    · intro w; go_simp; try with_reducible rfl
                    simp only [Act.put, List.setIfInBounds_toArray, List.set_cons_zero, List.set_cons_succ]
                    refine wpAny_ready (rs := [8]) (by kernel_rfl) (by simp) ?_
                    refine AllReady.cons rfl (fun KK hKK => ?_) ?_
                    · skip
                      go_simp
                      refine hKK _ _ ?_; clear hKK KK; try simp only [Act.put, List.setIfInBounds_toArray, List.set_cons_zero, List.set_cons_succ]
                      change wpAny _ _ _ _ _ _ _ (x12.alloc (.cells tlZ 27))
                      have hal := (Below.refl x12.heap.size x12).alloc (Nat.le_refl _) (.cells tlZ 27)
                      have HBx13 := Lib.hid ((HBx12.out).trans (hal.mono (HBx12.out).size)); have HP13 := Lib.hid (Blk.new x12 27 tlZ); have HQ := Lib.hid ((HBx12.out).size)
                      have HO13 := Lib.hid (HO12.out.below hal); have HE13 := Lib.hid (HE12.out.below hal)
                      clear hal
                      generalize x12.alloc (.cells tlZ 27) = x13 at *
                      obtain ⟨p, hp⟩ : ∃ p, p = x12.heap.size := ⟨_, rfl⟩
                      rw [← hp] at HP13 HQ ⊢; clear hp
                      refine wpAny_ready (rs := [9]) (by kernel_rfl) (by simp) ?_
                      refine AllReady.cons rfl (fun KK hKK => ?_) AllReady.nil
                      refine step_store (by rfl) 27 (.tmp 8) (.tmp 51) (by rfl) _ (tlC A6 c6 (u)) (by rfl) (by rfl) 27 tlZ HP13.out size27 rfl (tlC_one ..) none rfl ?_
                      intro v hbk hon
                      have HX := DoBox.made (A5 := A5) (c5 := c5) HBx13.out HQ.out HP13.out HO13.out HE13.out hbk hon
                      clear hbk hon; refine hKK _ _ ?_; clear hKK KK; simp only [Act.put]
                      refine take_at (i := 10) (v := ?_) rfl (by kernel_rfl) (by kernel_rfl) (by kernel_rfl) (fun _ _ _ h => h) (some 9) rfl (Or.inl ⟨by rfl, ?_⟩) ?_
                      rotate_left 1
                      · intro w; go_simp; try with_reducible rfl
                      simp only [Act.put, List.setIfInBounds_toArray, List.set_cons_zero, List.set_cons_succ]
                      refine take_at (i := 11) (v := ?_) rfl (by kernel_rfl) (by kernel_rfl) (by kernel_rfl) (fun _ _ _ h => h) (some 10) rfl (Or.inl ⟨by rfl, ?_⟩) ?_
                      rotate_left 1
                      · intro w; go_simp; try with_reducible rfl
                      simp only [Act.put, List.setIfInBounds_toArray, List.set_cons_zero, List.set_cons_succ]
                      refine wpAny_done (by kernel_rfl) ?_ _
                      exact HSH _ _ _ _ _ _ _ _ HX
                    exact AllReady.nil
                  refine AllReady.cons rfl (fun KK hKK => ?_) ?_
                  · skip
                    go_simp
                    refine hKK _ _ ?_; clear hKK KK; try simp only [Act.put, List.setIfInBounds_toArray, List.set_cons_zero, List.set_cons_succ]
                    change wpAny _ _ _ _ _ _ _ (x11.alloc (.cells tlZ 27))
                    have hal := (Below.refl x11.heap.size x11).alloc (Nat.le_refl _) (.cells tlZ 27)
                    have HBx15 := Lib.hid ((HBx11.out).trans (hal.mono (HBx11.out).size)); have HP15 := Lib.hid (Blk.new x11 27 tlZ); have HQ := Lib.hid ((HBx11.out).size)
                    have HC15 := Lib.hid (HC11.out.below hal)
                    clear hal
                    generalize x11.alloc (.cells tlZ 27) = x15 at *
                    obtain ⟨p, hp⟩ : ∃ p, p = x11.heap.size := ⟨_, rfl⟩
                    rw [← hp] at HP15 HQ ⊢; clear hp
                    refine wpAny_ready (rs := [3]) (by kernel_rfl) (by simp) ?_
                    refine AllReady.cons rfl (fun KK hKK => ?_) ?_
                    · skip
                      refine step_call2 (by rfl) 22 (.tmp 48) (.tmp 49) _ (by rfl) (tlV A5 c5 t) (cmV (twM 9 h t (1 + z))) (by rfl) (by rfl) (fun _ _ => rfl) _ (do_as (w := x15) HC15.out (HN.out) (Hhs.out) ((G5.out.tb).below HBx15.out) (Ht1.out) (He1.out) (Hc1.out)) (some 50) rfl ?_
                      rintro e x16 ⟨A6, c6, B6, e6, rfl, ho6, he6, hb⟩
                      refine ⟨_, rfl, ?_⟩
                      have HBx16 := Lib.hid ((HBx15.out).trans (hb.mono (HBx15.out).size)); have HO16 := Lib.hid (Own.base ho6 (HBx15.out).size); have HE16 := Lib.hid (OwnE.base he6 (HBx15.out).size)
                      have HP16 := Lib.hid (HP15.out.below hb HP15.out.lt)
                      clear hb ho6 he6; refine hKK _ _ ?_; clear hKK KK; simp only [Act.put, List.setIfInBounds_toArray, List.set_cons_zero, List.set_cons_succ]
                      refine take_at (i := 4) (v := ?_) rfl (by kernel_rfl) (by kernel_rfl) (by kernel_rfl) (fun _ _ _ h => h) (some 46) rfl (Or.inl ⟨by rfl, ?_⟩) ?_
                      rotate_left 1
                      · intro w; go_simp; try with_reducible rfl
                      simp only [Act.put, List.setIfInBounds_toArray, List.set_cons_zero, List.set_cons_succ]
                      refine take_at (i := 5) (v := ?_) rfl (by kernel_rfl) (by kernel_rfl) (by kernel_rfl) (fun _ _ _ h => h) (some 51) rfl (Or.inl ⟨by rfl, ?_⟩) ?_
                      rotate_left 1
                      · intro w; go_simp; try with_reducible rfl
                      simp only [Act.put, List.setIfInBounds_toArray, List.set_cons_zero, List.set_cons_succ]
                      refine take_at (i := 6) (v := ?_) rfl (by kernel_rfl) (by kernel_rfl) (by kernel_rfl) (fun _ _ _ h => h) (some 52) rfl (Or.inl ⟨by rfl, ?_⟩) ?_
                      rotate_left 1
                      · intro w; go_simp; try with_reducible rfl
                      simp only [Act.put, List.setIfInBounds_toArray, List.set_cons_zero, List.set_cons_succ]
                      refine take_at (i := 7) (v := ?_) rfl (by kernel_rfl) (by kernel_rfl) (by kernel_rfl) (fun _ _ _ h => h) (some 53) rfl (Or.inl ⟨by rfl, ?_⟩) ?_
                      rotate_left 1
                      · intro w; go_simp; try with_reducible rfl
                      simp only [Act.put, List.setIfInBounds_toArray, List.set_cons_zero, List.set_cons_succ]
                      refine wpAny_ready (rs := [9]) (by kernel_rfl) (by simp) ?_
                      refine AllReady.cons rfl (fun KK hKK => ?_) AllReady.nil
                      refine step_store (by rfl) 27 (.tmp 8) (.tmp 51) (by rfl) _ (tlC A6 c6 (u)) (by rfl) (by rfl) 27 tlZ HP16.out size27 rfl (tlC_one ..) none rfl ?_
                      intro v hbk hon
                      have HX := DoBox.made (A5 := A5) (c5 := c5) HBx16.out HQ.out HP16.out HO16.out HE16.out hbk hon
                      clear hbk hon; refine hKK _ _ ?_; clear hKK KK; simp only [Act.put]
                      refine take_at (i := 10) (v := ?_) rfl (by kernel_rfl) (by kernel_rfl) (by kernel_rfl) (fun _ _ _ h => h) (some 9) rfl (Or.inl ⟨by rfl, ?_⟩) ?_
                      rotate_left 1
                      · intro w; go_simp; try with_reducible rfl
                      simp only [Act.put, List.setIfInBounds_toArray, List.set_cons_zero, List.set_cons_succ]
                      refine take_at (i := 11) (v := ?_) rfl (by kernel_rfl) (by kernel_rfl) (by kernel_rfl) (fun _ _ _ h => h) (some 10) rfl (Or.inl ⟨by rfl, ?_⟩) ?_
                      rotate_left 1
                      · intro w; go_simp; try with_reducible rfl
                      simp only [Act.put, List.setIfInBounds_toArray, List.set_cons_zero, List.set_cons_succ]
                      refine wpAny_done (by kernel_rfl) ?_ _
                      exact HSH _ _ _ _ _ _ _ _ HX
                    exact AllReady.nil
                  exact AllReady.nil
                refine AllReady.cons rfl (fun KK hKK => ?_) ?_
                · skip
                  go_simp
                  refine hKK _ _ ?_; clear hKK KK; try simp only [Act.put, List.setIfInBounds_toArray, List.set_cons_zero, List.set_cons_succ]
                  change wpAny _ _ _ _ _ _ _ (x0.alloc (.cells tlZ 27))
                  have hal := (Below.refl x0.heap.size x0).alloc (Nat.le_refl _) (.cells tlZ 27)
                  have HBx18 := Lib.hid ((HBx0.out).trans (hal.mono (HBx0.out).size)); have HP18 := Lib.hid (Blk.new x0 27 tlZ); have HQ := Lib.hid ((HBx0.out).size)
                  clear hal
                  generalize x0.alloc (.cells tlZ 27) = x18 at *
                  obtain ⟨p, hp⟩ : ∃ p, p = x0.heap.size := ⟨_, rfl⟩
                  rw [← hp] at HP18 HQ ⊢; clear hp
                  refine wpAny_ready (rs := [1]) (by kernel_rfl) (by simp) ?_
                  refine AllReady.cons rfl (fun KK hKK => ?_) ?_
                  · skip
                    refine step_call1 (by rfl) 13 (.tmp 47) _ (by rfl) (tlV A c t) (by rfl) (fun _ _ => rfl) _ (copy_any A c t x18 ((G5.out.l).below HBx18.out) (Nat.le_trans (HN.out).1 (by decide))) (some 48) rfl ?_
                    rintro e x19 ⟨A5, c5, rfl, ho5, hb⟩
                    refine ⟨_, rfl, ?_⟩
                    have HBx19 := Lib.hid ((HBx18.out).trans (hb.mono (HBx18.out).size)); have HC19 := Lib.hid ho5.rgs
                    have HP19 := Lib.hid (HP18.out.below hb HP18.out.lt)
                    clear hb ho5; refine hKK _ _ ?_; clear hKK KK; simp only [Act.put, List.setIfInBounds_toArray, List.set_cons_zero, List.set_cons_succ]
                    refine wpAny_ready (rs := [3]) (by kernel_rfl) (by simp) ?_
                    refine AllReady.cons rfl (fun KK hKK => ?_) ?_
                    · skip
                      refine step_call2 (by rfl) 22 (.tmp 48) (.tmp 49) _ (by rfl) (tlV A5 c5 t) (cmV (twM 9 h t (1 + z))) (by rfl) (by rfl) (fun _ _ => rfl) _ (do_as (w := x19) HC19.out (HN.out) (Hhs.out) ((G5.out.tb).below HBx19.out) (Ht1.out) (He1.out) (Hc1.out)) (some 50) rfl ?_
                      rintro e x20 ⟨A6, c6, B6, e6, rfl, ho6, he6, hb⟩
                      refine ⟨_, rfl, ?_⟩
                      have HBx20 := Lib.hid ((HBx19.out).trans (hb.mono (HBx19.out).size)); have HO20 := Lib.hid (Own.base ho6 (HBx19.out).size); have HE20 := Lib.hid (OwnE.base he6 (HBx19.out).size)
                      have HP20 := Lib.hid (HP19.out.below hb HP19.out.lt)
                      clear hb ho6 he6; refine hKK _ _ ?_; clear hKK KK; simp only [Act.put, List.setIfInBounds_toArray, List.set_cons_zero, List.set_cons_succ]
                      refine take_at (i := 4) (v := ?_) rfl (by kernel_rfl) (by kernel_rfl) (by kernel_rfl) (fun _ _ _ h => h) (some 46) rfl (Or.inl ⟨by rfl, ?_⟩) ?_
                      rotate_left 1
                      · intro w; go_simp; try with_reducible rfl
                      simp only [Act.put, List.setIfInBounds_toArray, List.set_cons_zero, List.set_cons_succ]
                      refine take_at (i := 5) (v := ?_) rfl (by kernel_rfl) (by kernel_rfl) (by kernel_rfl) (fun _ _ _ h => h) (some 51) rfl (Or.inl ⟨by rfl, ?_⟩) ?_
                      rotate_left 1
                      · intro w; go_simp; try with_reducible rfl
                      simp only [Act.put, List.setIfInBounds_toArray, List.set_cons_zero, List.set_cons_succ]
                      refine take_at (i := 6) (v := ?_) rfl (by kernel_rfl) (by kernel_rfl) (by kernel_rfl) (fun _ _ _ h => h) (some 52) rfl (Or.inl ⟨by rfl, ?_⟩) ?_
                      rotate_left 1
                      · intro w; go_simp; try with_reducible rfl
                      simp only [Act.put, List.setIfInBounds_toArray, List.set_cons_zero, List.set_cons_succ]
                      refine take_at (i := 7) (v := ?_) rfl (by kernel_rfl) (by kernel_rfl) (by kernel_rfl) (fun _ _ _ h => h) (some 53) rfl (Or.inl ⟨by rfl, ?_⟩) ?_
                      rotate_left 1
                      · intro w; go_simp; try with_reducible rfl
                      simp only [Act.put, List.setIfInBounds_toArray, List.set_cons_zero, List.set_cons_succ]
                      refine wpAny_ready (rs := [9]) (by kernel_rfl) (by simp) ?_
                      refine AllReady.cons rfl (fun KK hKK => ?_) AllReady.nil
                      refine step_store (by rfl) 27 (.tmp 8) (.tmp 51) (by rfl) _ (tlC A6 c6 (u)) (by rfl) (by rfl) 27 tlZ HP20.out size27 rfl (tlC_one ..) none rfl ?_
                      intro v hbk hon
                      have HX := DoBox.made (A5 := A5) (c5 := c5) HBx20.out HQ.out HP20.out HO20.out HE20.out hbk hon
                      clear hbk hon; refine hKK _ _ ?_; clear hKK KK; simp only [Act.put]
                      refine take_at (i := 10) (v := ?_) rfl (by kernel_rfl) (by kernel_rfl) (by kernel_rfl) (fun _ _ _ h => h) (some 9) rfl (Or.inl ⟨by rfl, ?_⟩) ?_
                      rotate_left 1
                      · intro w; go_simp; try with_reducible rfl
                      simp only [Act.put, List.setIfInBounds_toArray, List.set_cons_zero, List.set_cons_succ]
                      refine take_at (i := 11) (v := ?_) rfl (by kernel_rfl) (by kernel_rfl) (by kernel_rfl) (fun _ _ _ h => h) (some 10) rfl (Or.inl ⟨by rfl, ?_⟩) ?_
                      rotate_left 1
                      · intro w; go_simp; try with_reducible rfl
                      simp only [Act.put, List.setIfInBounds_toArray, List.set_cons_zero, List.set_cons_succ]
                      refine wpAny_done (by kernel_rfl) ?_ _
                      exact HSH _ _ _ _ _ _ _ _ HX
                    exact AllReady.nil
                  exact AllReady.nil
                exact AllReady.nil
              refine AllReady.cons rfl (fun KK hKK => ?_) ?_
              · skip
                go_simp
                refine hKK _ _ ?_; clear hKK KK; try simp only [Act.put, List.setIfInBounds_toArray, List.set_cons_zero, List.set_cons_succ]
                change wpAny _ _ _ _ _ _ _ (x0.alloc (.cells tlZ 27))
                have hal := (Below.refl x0.heap.size x0).alloc (Nat.le_refl _) (.cells tlZ 27)
                have HBx22 := Lib.hid ((HBx0.out).trans (hal.mono (HBx0.out).size)); have HP22 := Lib.hid (Blk.new x0 27 tlZ); have HQ := Lib.hid ((HBx0.out).size)
                clear hal
                generalize x0.alloc (.cells tlZ 27) = x22 at *
                obtain ⟨p, hp⟩ : ∃ p, p = x0.heap.size := ⟨_, rfl⟩
                rw [← hp] at HP22 HQ ⊢; clear hp
                refine wpAny_ready (rs := [1, 2]) (by kernel_rfl) (by simp) ?_
                refine AllReady.cons rfl (fun KK hKK => ?_) ?_
                · skip
                  refine step_call1 (by rfl) 13 (.tmp 47) _ (by rfl) (tlV A c t) (by rfl) (fun _ _ => rfl) _ (copy_any A c t x22 ((G5.out.l).below HBx22.out) (Nat.le_trans (HN.out).1 (by decide))) (some 48) rfl ?_
                  rintro e x23 ⟨A5, c5, rfl, ho5, hb⟩
                  refine ⟨_, rfl, ?_⟩
                  have HBx23 := Lib.hid ((HBx22.out).trans (hb.mono (HBx22.out).size)); have HC23 := Lib.hid ho5.rgs
                  have HP23 := Lib.hid (HP22.out.below hb HP22.out.lt)
                  clear hb ho5; refine hKK _ _ ?_; clear hKK KK; simp only [Act.put, List.setIfInBounds_toArray, List.set_cons_zero, List.set_cons_succ]
                  refine wpAny_ready (rs := [2]) (by kernel_rfl) (by simp) ?_
                  refine AllReady.cons rfl (fun KK hKK => ?_) ?_
                  · skip
                    refine step_load (by rfl) 37 (.tmp 7) (by rfl) pm (by rfl) 37 (cmC (twM 9 h t (1 + z))) ((HCM.out).below HBx23.out (HCM.out).lt) _ Tryd.underlying37 rfl size37 (some 49) rfl ?_
                    refine hKK _ _ ?_; clear hKK KK; simp only [Act.put, List.setIfInBounds_toArray, List.set_cons_zero, List.set_cons_succ]
                    refine wpAny_ready (rs := [3]) (by kernel_rfl) (by simp) ?_
                    refine AllReady.cons rfl (fun KK hKK => ?_) ?_
                    · skip
                      refine step_call2 (by rfl) 22 (.tmp 48) (.tmp 49) _ (by rfl) (tlV A5 c5 t) (cmV (twM 9 h t (1 + z))) (by rfl) (by rfl) (fun _ _ => rfl) _ (do_as (w := x23) HC23.out (HN.out) (Hhs.out) ((G5.out.tb).below HBx23.out) (Ht1.out) (He1.out) (Hc1.out)) (some 50) rfl ?_
                      rintro e x24 ⟨A6, c6, B6, e6, rfl, ho6, he6, hb⟩
                      refine ⟨_, rfl, ?_⟩
                      have HBx24 := Lib.hid ((HBx23.out).trans (hb.mono (HBx23.out).size)); have HO24 := Lib.hid (Own.base ho6 (HBx23.out).size); have HE24 := Lib.hid (OwnE.base he6 (HBx23.out).size)
                      have HP24 := Lib.hid (HP23.out.below hb HP23.out.lt)
                      clear hb ho6 he6; refine hKK _ _ ?_; clear hKK KK; simp only [Act.put, List.setIfInBounds_toArray, List.set_cons_zero, List.set_cons_succ]
                      refine take_at (i := 4) (v := ?_) rfl (by kernel_rfl) (by kernel_rfl) (by kernel_rfl) (fun _ _ _ h => h) (some 46) rfl (Or.inl ⟨by rfl, ?_⟩) ?_
                      rotate_left 1
                      · intro w; go_simp; try with_reducible rfl
                      simp only [Act.put, List.setIfInBounds_toArray, List.set_cons_zero, List.set_cons_succ]
                      refine take_at (i := 5) (v := ?_) rfl (by kernel_rfl) (by kernel_rfl) (by kernel_rfl) (fun _ _ _ h => h) (some 51) rfl (Or.inl ⟨by rfl, ?_⟩) ?_
                      rotate_left 1
                      · intro w; go_simp; try with_reducible rfl
                      simp only [Act.put, List.setIfInBounds_toArray, List.set_cons_zero, List.set_cons_succ]
                      refine take_at (i := 6) (v := ?_) rfl (by kernel_rfl) (by kernel_rfl) (by kernel_rfl) (fun _ _ _ h => h) (some 52) rfl (Or.inl ⟨by rfl, ?_⟩) ?_
                      rotate_left 1
                      · intro w; go_simp; try with_reducible rfl
                      simp only [Act.put, List.setIfInBounds_toArray, List.set_cons_zero, List.set_cons_succ]
                      refine take_at (i := 7) (v := ?_) rfl (by kernel_rfl) (by kernel_rfl) (by kernel_rfl) (fun _ _ _ h => h) (some 53) rfl (Or.inl ⟨by rfl, ?_⟩) ?_
                      rotate_left 1
                      · intro w; go_simp; try with_reducible rfl
                      simp only [Act.put, List.setIfInBounds_toArray, List.set_cons_zero, List.set_cons_succ]
                      refine wpAny_ready (rs := [9]) (by kernel_rfl) (by simp) ?_
                      refine AllReady.cons rfl (fun KK hKK => ?_) AllReady.nil
                      refine step_store (by rfl) 27 (.tmp 8) (.tmp 51) (by rfl) _ (tlC A6 c6 (u)) (by rfl) (by rfl) 27 tlZ HP24.out size27 rfl (tlC_one ..) none rfl ?_
                      intro v hbk hon
                      have HX := DoBox.made (A5 := A5) (c5 := c5) HBx24.out HQ.out HP24.out HO24.out HE24.out hbk hon
                      clear hbk hon; refine hKK _ _ ?_; clear hKK KK; simp only [Act.put]
                      refine take_at (i := 10) (v := ?_) rfl (by kernel_rfl) (by kernel_rfl) (by kernel_rfl) (fun _ _ _ h => h) (some 9) rfl (Or.inl ⟨by rfl, ?_⟩) ?_
                      rotate_left 1
                      · intro w; go_simp; try with_reducible rfl
                      simp only [Act.put, List.setIfInBounds_toArray, List.set_cons_zero, List.set_cons_succ]
                      refine take_at (i := 11) (v := ?_) rfl (by kernel_rfl) (by kernel_rfl) (by kernel_rfl) (fun _ _ _ h => h) (some 10) rfl (Or.inl ⟨by rfl, ?_⟩) ?_
                      rotate_left 1
                      · intro w; go_simp; try with_reducible rfl
                      simp only [Act.put, List.setIfInBounds_toArray, List.set_cons_zero, List.set_cons_succ]
                      refine wpAny_done (by kernel_rfl) ?_ _
                      exact HSH _ _ _ _ _ _ _ _ HX
                    exact AllReady.nil
                  exact AllReady.nil
                refine AllReady.cons rfl (fun KK hKK => ?_) ?_
                · skip
                  refine step_load (by rfl) 37 (.tmp 7) (by rfl) pm (by rfl) 37 (cmC (twM 9 h t (1 + z))) ((HCM.out).below HBx22.out (HCM.out).lt) _ Tryd.underlying37 rfl size37 (some 49) rfl ?_
                  refine hKK _ _ ?_; clear hKK KK; simp only [Act.put, List.setIfInBounds_toArray, List.set_cons_zero, List.set_cons_succ]
                  refine wpAny_ready (rs := [1]) (by kernel_rfl) (by simp) ?_
                  refine AllReady.cons rfl (fun KK hKK => ?_) ?_
                  · skip
                    refine step_call1 (by rfl) 13 (.tmp 47) _ (by rfl) (tlV A c t) (by rfl) (fun _ _ => rfl) _ (copy_any A c t x22 ((G5.out.l).below HBx22.out) (Nat.le_trans (HN.out).1 (by decide))) (some 48) rfl ?_
                    rintro e x26 ⟨A5, c5, rfl, ho5, hb⟩
                    refine ⟨_, rfl, ?_⟩
                    have HBx26 := Lib.hid ((HBx22.out).trans (hb.mono (HBx22.out).size)); have HC26 := Lib.hid ho5.rgs
                    have HP26 := Lib.hid (HP22.out.below hb HP22.out.lt)
                    clear hb ho5; refine hKK _ _ ?_; clear hKK KK; simp only [Act.put, List.setIfInBounds_toArray, List.set_cons_zero, List.set_cons_succ]
                    refine wpAny_ready (rs := [3]) (by kernel_rfl) (by simp) ?_
                    refine AllReady.cons rfl (fun KK hKK => ?_) ?_
                    · skip
                      refine step_call2 (by rfl) 22 (.tmp 48) (.tmp 49) _ (by rfl) (tlV A5 c5 t) (cmV (twM 9 h t (1 + z))) (by rfl) (by rfl) (fun _ _ => rfl) _ (do_as (w := x26) HC26.out (HN.out) (Hhs.out) ((G5.out.tb).below HBx26.out) (Ht1.out) (He1.out) (Hc1.out)) (some 50) rfl ?_
                      rintro e x27 ⟨A6, c6, B6, e6, rfl, ho6, he6, hb⟩
                      refine ⟨_, rfl, ?_⟩
                      have HBx27 := Lib.hid ((HBx26.out).trans (hb.mono (HBx26.out).size)); have HO27 := Lib.hid (Own.base ho6 (HBx26.out).size); have HE27 := Lib.hid (OwnE.base he6 (HBx26.out).size)
                      have HP27 := Lib.hid (HP26.out.below hb HP26.out.lt)
                      clear hb ho6 he6; refine hKK _ _ ?_; clear hKK KK; simp only [Act.put, List.setIfInBounds_toArray, List.set_cons_zero, List.set_cons_succ]
                      refine take_at (i := 4) (v := ?_) rfl (by kernel_rfl) (by kernel_rfl) (by kernel_rfl) (fun _ _ _ h => h) (some 46) rfl (Or.inl ⟨by rfl, ?_⟩) ?_
                      rotate_left 1
                      · intro w; go_simp; try with_reducible rfl
                      simp only [Act.put, List.setIfInBounds_toArray, List.set_cons_zero, List.set_cons_succ]
                      refine take_at (i := 5) (v := ?_) rfl (by kernel_rfl) (by kernel_rfl) (by kernel_rfl) (fun _ _ _ h => h) (some 51) rfl (Or.inl ⟨by rfl, ?_⟩) ?_
                      rotate_left 1
                      · intro w; go_simp; try with_reducible rfl
                      simp only [Act.put, List.setIfInBounds_toArray, List.set_cons_zero, List.set_cons_succ]
                      refine take_at (i := 6) (v := ?_) rfl (by kernel_rfl) (by kernel_rfl) (by kernel_rfl) (fun _ _ _ h => h) (some 52) rfl (Or.inl ⟨by rfl, ?_⟩) ?_
                      rotate_left 1
                      · intro w; go_simp; try with_reducible rfl
                      simp only [Act.put, List.setIfInBounds_toArray, List.set_cons_zero, List.set_cons_succ]
                      refine take_at (i := 7) (v := ?_) rfl (by kernel_rfl) (by kernel_rfl) (by kernel_rfl) (fun _ _ _ h => h) (some 53) rfl (Or.inl ⟨by rfl, ?_⟩) ?_
                      rotate_left 1
                      · intro w; go_simp; try with_reducible rfl
                      simp only [Act.put, List.setIfInBounds_toArray, List.set_cons_zero, List.set_cons_succ]
                      refine wpAny_ready (rs := [9]) (by kernel_rfl) (by simp) ?_
                      refine AllReady.cons rfl (fun KK hKK => ?_) AllReady.nil
                      refine step_store (by rfl) 27 (.tmp 8) (.tmp 51) (by rfl) _ (tlC A6 c6 (u)) (by rfl) (by rfl) 27 tlZ HP27.out size27 rfl (tlC_one ..) none rfl ?_
                      intro v hbk hon
                      have HX := DoBox.made (A5 := A5) (c5 := c5) HBx27.out HQ.out HP27.out HO27.out HE27.out hbk hon
                      clear hbk hon; refine hKK _ _ ?_; clear hKK KK; simp only [Act.put]
                      refine take_at (i := 10) (v := ?_) rfl (by kernel_rfl) (by kernel_rfl) (by kernel_rfl) (fun _ _ _ h => h) (some 9) rfl (Or.inl ⟨by rfl, ?_⟩) ?_
                      rotate_left 1
                      · intro w; go_simp; try with_reducible rfl
                      simp only [Act.put, List.setIfInBounds_toArray, List.set_cons_zero, List.set_cons_succ]
                      refine take_at (i := 11) (v := ?_) rfl (by kernel_rfl) (by kernel_rfl) (by kernel_rfl) (fun _ _ _ h => h) (some 10) rfl (Or.inl ⟨by rfl, ?_⟩) ?_
                      rotate_left 1
                      · intro w; go_simp; try with_reducible rfl
                      simp only [Act.put, List.setIfInBounds_toArray, List.set_cons_zero, List.set_cons_succ]
                      refine wpAny_done (by kernel_rfl) ?_ _
                      exact HSH _ _ _ _ _ _ _ _ HX
                    exact AllReady.nil
                  exact AllReady.nil
                exact AllReady.nil
              exact AllReady.nil
            refine AllReady.cons rfl (fun KK hKK => ?_) ?_
            · skip
              refine step_load (by rfl) 37 (.tmp 7) (by rfl) pm (by rfl) 37 (cmC (twM 9 h t (1 + z))) ((HCM.out).below HBx0.out (HCM.out).lt) _ Tryd.underlying37 rfl size37 (some 49) rfl ?_
              refine hKK _ _ ?_; clear hKK KK; simp only [Act.put, List.setIfInBounds_toArray, List.set_cons_zero, List.set_cons_succ]
              refine wpAny_ready (rs := [0, 8]) (by kernel_rfl) (by simp) ?_
              refine AllReady.cons rfl (fun KK hKK => ?_) ?_
              · skip
                refine step_load (by rfl) 27 (.tmp 3) (by rfl) w.heap.size (by rfl) 27 (tlC A c t) ((G5.out.b).below HBx0.out (G5.out.b).lt) _ Tryd.underlying27 rfl size27 (some 47) rfl ?_
                refine hKK _ _ ?_; clear hKK KK; simp only [Act.put, List.setIfInBounds_toArray, List.set_cons_zero, List.set_cons_succ]
                refine wpAny_ready (rs := [1, 8]) (by kernel_rfl) (by simp) ?_
                refine AllReady.cons rfl (fun KK hKK => ?_) ?_
                · skip
                  refine step_call1 (by rfl) 13 (.tmp 47) _ (by rfl) (tlV A c t) (by rfl) (fun _ _ => rfl) _ (copy_any A c t x0 ((G5.out.l).below HBx0.out) (Nat.le_trans (HN.out).1 (by decide))) (some 48) rfl ?_
                  rintro e x29 ⟨A5, c5, rfl, ho5, hb⟩
                  refine ⟨_, rfl, ?_⟩
                  have HBx29 := Lib.hid ((HBx0.out).trans (hb.mono (HBx0.out).size)); have HC29 := Lib.hid ho5.rgs
                  clear hb ho5; refine hKK _ _ ?_; clear hKK KK; simp only [Act.put, List.setIfInBounds_toArray, List.set_cons_zero, List.set_cons_succ]
                  refine wpAny_ready (rs := [3, 8]) (by kernel_rfl) (by simp) ?_
                  refine AllReady.cons rfl (fun KK hKK => ?_) ?_
                  · skip
                    refine step_call2 (by rfl) 22 (.tmp 48) (.tmp 49) _ (by rfl) (tlV A5 c5 t) (cmV (twM 9 h t (1 + z))) (by rfl) (by rfl) (fun _ _ => rfl) _ (do_as (w := x29) HC29.out (HN.out) (Hhs.out) ((G5.out.tb).below HBx29.out) (Ht1.out) (He1.out) (Hc1.out)) (some 50) rfl ?_
                    rintro e x30 ⟨A6, c6, B6, e6, rfl, ho6, he6, hb⟩
                    refine ⟨_, rfl, ?_⟩
                    have HBx30 := Lib.hid ((HBx29.out).trans (hb.mono (HBx29.out).size)); have HO30 := Lib.hid (Own.base ho6 (HBx29.out).size); have HE30 := Lib.hid (OwnE.base he6 (HBx29.out).size)
                    clear hb ho6 he6; refine hKK _ _ ?_; clear hKK KK; simp only [Act.put, List.setIfInBounds_toArray, List.set_cons_zero, List.set_cons_succ]
                    refine take_at (i := 4) (v := ?_) rfl (by kernel_rfl) (by kernel_rfl) (by kernel_rfl) (fun _ _ _ h => h) (some 46) rfl (Or.inl ⟨by rfl, ?_⟩) ?_
                    rotate_left 1
                    · intro w; go_simp; try with_reducible rfl
                    simp only [Act.put, List.setIfInBounds_toArray, List.set_cons_zero, List.set_cons_succ]
                    refine take_at (i := 5) (v := ?_) rfl (by kernel_rfl) (by kernel_rfl) (by kernel_rfl) (fun _ _ _ h => h) (some 51) rfl (Or.inl ⟨by rfl, ?_⟩) ?_
                    rotate_left 1
                    · intro w; go_simp; try with_reducible rfl
                    simp only [Act.put, List.setIfInBounds_toArray, List.set_cons_zero, List.set_cons_succ]
                    refine take_at (i := 6) (v := ?_) rfl (by kernel_rfl) (by kernel_rfl) (by kernel_rfl) (fun _ _ _ h => h) (some 52) rfl (Or.inl ⟨by rfl, ?_⟩) ?_
                    rotate_left 1
                    · intro w; go_simp; try with_reducible rfl
                    simp only [Act.put, List.setIfInBounds_toArray, List.set_cons_zero, List.set_cons_succ]
                    refine take_at (i := 7) (v := ?_) rfl (by kernel_rfl) (by kernel_rfl) (by kernel_rfl) (fun _ _ _ h => h) (some 53) rfl (Or.inl ⟨by rfl, ?_⟩) ?_
                    rotate_left 1
                    · intro w; go_simp; try with_reducible rfl
                    simp only [Act.put, List.setIfInBounds_toArray, List.set_cons_zero, List.set_cons_succ]
                    refine wpAny_ready (rs := [8]) (by kernel_rfl) (by simp) ?_
                    refine AllReady.cons rfl (fun KK hKK => ?_) ?_
                    · skip
                      go_simp
                      refine hKK _ _ ?_; clear hKK KK; try simp only [Act.put, List.setIfInBounds_toArray, List.set_cons_zero, List.set_cons_succ]
                      change wpAny _ _ _ _ _ _ _ (x30.alloc (.cells tlZ 27))
                      have hal := (Below.refl x30.heap.size x30).alloc (Nat.le_refl _) (.cells tlZ 27)
                      have HBx31 := Lib.hid ((HBx30.out).trans (hal.mono (HBx30.out).size)); have HP31 := Lib.hid (Blk.new x30 27 tlZ); have HQ := Lib.hid ((HBx30.out).size)
                      have HO31 := Lib.hid (HO30.out.below hal); have HE31 := Lib.hid (HE30.out.below hal)
                      clear hal
                      generalize x30.alloc (.cells tlZ 27) = x31 at *
                      obtain ⟨p, hp⟩ : ∃ p, p = x30.heap.size := ⟨_, rfl⟩
                      rw [← hp] at HP31 HQ ⊢; clear hp
                      refine wpAny_ready (rs := [9]) (by kernel_rfl) (by simp) ?_
                      refine AllReady.cons rfl (fun KK hKK => ?_) AllReady.nil
                      refine step_store (by rfl) 27 (.tmp 8) (.tmp 51) (by rfl) _ (tlC A6 c6 (u)) (by rfl) (by rfl) 27 tlZ HP31.out size27 rfl (tlC_one ..) none rfl ?_
                      intro v hbk hon
                      have HX := DoBox.made (A5 := A5) (c5 := c5) HBx31.out HQ.out HP31.out HO31.out HE31.out hbk hon
                      clear hbk hon; refine hKK _ _ ?_; clear hKK KK; simp only [Act.put]
                      refine take_at (i := 10) (v := ?_) rfl (by kernel_rfl) (by kernel_rfl) (by kernel_rfl) (fun _ _ _ h => h) (some 9) rfl (Or.inl ⟨by rfl, ?_⟩) ?_
                      rotate_left 1
                      · intro w; go_simp; try with_reducible rfl
                      simp only [Act.put, List.setIfInBounds_toArray, List.set_cons_zero, List.set_cons_succ]
                      refine take_at (i := 11) (v := ?_) rfl (by kernel_rfl) (by kernel_rfl) (by kernel_rfl) (fun _ _ _ h => h) (some 10) rfl (Or.inl ⟨by rfl, ?_⟩) ?_
                      rotate_left 1
                      · intro w; go_simp; try with_reducible rfl
                      simp only [Act.put, List.setIfInBounds_toArray, List.set_cons_zero, List.set_cons_succ]
                      refine wpAny_done (by kernel_rfl) ?_ _
                      exact HSH _ _ _ _ _ _ _ _ HX
                    exact AllReady.nil
                  refine AllReady.cons rfl (fun KK hKK => ?_) ?_
                  · skip
                    go_simp
                    refine hKK _ _ ?_; clear hKK KK; try simp only [Act.put, List.setIfInBounds_toArray, List.set_cons_zero, List.set_cons_succ]
                    change wpAny _ _ _ _ _ _ _ (x29.alloc (.cells tlZ 27))
                    have hal := (Below.refl x29.heap.size x29).alloc (Nat.le_refl _) (.cells tlZ 27)
                    have HBx33 := Lib.hid ((HBx29.out).trans (hal.mono (HBx29.out).size)); have HP33 := Lib.hid (Blk.new x29 27 tlZ); have HQ := Lib.hid ((HBx29.out).size)
                    have HC33 := Lib.hid (HC29.out.below hal)
                    clear hal
                    generalize x29.alloc (.cells tlZ 27) = x33 at *
                    obtain ⟨p, hp⟩ : ∃ p, p = x29.heap.size := ⟨_, rfl⟩
                    rw [← hp] at HP33 HQ ⊢; clear hp
                    refine wpAny_ready (rs := [3]) (by kernel_rfl) (by simp) ?_
                    refine AllReady.cons rfl (fun KK hKK => ?_) ?_
                    · skip
                      refine step_call2 (by rfl) 22 (.tmp 48) (.tmp 49) _ (by rfl) (tlV A5 c5 t) (cmV (twM 9 h t (1 + z))) (by rfl) (by rfl) (fun _ _ => rfl) _ (do_as (w := x33) HC33.out (HN.out) (Hhs.out) ((G5.out.tb).below HBx33.out) (Ht1.out) (He1.out) (Hc1.out)) (some 50) rfl ?_
                      rintro e x34 ⟨A6, c6, B6, e6, rfl, ho6, he6, hb⟩
                      refine ⟨_, rfl, ?_⟩
                      have HBx34 := Lib.hid ((HBx33.out).trans (hb.mono (HBx33.out).size)); have HO34 := Lib.hid (Own.base ho6 (HBx33.out).size); have HE34 := Lib.hid (OwnE.base he6 (HBx33.out).size)
                      have HP34 := Lib.hid (HP33.out.below hb HP33.out.lt)
                      clear hb ho6 he6; refine hKK _ _ ?_; clear hKK KK; simp only [Act.put, List.setIfInBounds_toArray, List.set_cons_zero, List.set_cons_succ]
                      refine take_at (i := 4) (v := ?_) rfl (by kernel_rfl) (by kernel_rfl) (by kernel_rfl) (fun _ _ _ h => h) (some 46) rfl (Or.inl ⟨by rfl, ?_⟩) ?_
                      rotate_left 1
                      · intro w; go_simp; try with_reducible rfl
                      simp only [Act.put, List.setIfInBounds_toArray, List.set_cons_zero, List.set_cons_succ]
                      refine take_at (i := 5) (v := ?_) rfl (by kernel_rfl) (by kernel_rfl) (by kernel_rfl) (fun _ _ _ h => h) (some 51) rfl (Or.inl ⟨by rfl, ?_⟩) ?_
                      rotate_left 1
                      · intro w; go_simp; try with_reducible rfl
                      simp only [Act.put, List.setIfInBounds_toArray, List.set_cons_zero, List.set_cons_succ]
                      refine take_at (i := 6) (v := ?_) rfl (by kernel_rfl) (by kernel_rfl) (by kernel_rfl) (fun _ _ _ h => h) (some 52) rfl (Or.inl ⟨by rfl, ?_⟩) ?_
                      rotate_left 1
                      · intro w; go_simp; try with_reducible rfl
                      simp only [Act.put, List.setIfInBounds_toArray, List.set_cons_zero, List.set_cons_succ]
                      refine take_at (i := 7) (v := ?_) rfl (by kernel_rfl) (by kernel_rfl) (by kernel_rfl) (fun _ _ _ h => h) (some 53) rfl (Or.inl ⟨by rfl, ?_⟩) ?_
                      rotate_left 1
                      · intro w; go_simp; try with_reducible rfl
                      simp only [Act.put, List.setIfInBounds_toArray, List.set_cons_zero, List.set_cons_succ]
                      refine wpAny_ready (rs := [9]) (by kernel_rfl) (by simp) ?_
                      refine AllReady.cons rfl (fun KK hKK => ?_) AllReady.nil
                      refine step_store (by rfl) 27 (.tmp 8) (.tmp 51) (by rfl) _ (tlC A6 c6 (u)) (by rfl) (by rfl) 27 tlZ HP34.out size27 rfl (tlC_one ..) none rfl ?_
                      intro v hbk hon
                      have HX := DoBox.made (A5 := A5) (c5 := c5) HBx34.out HQ.out HP34.out HO34.out HE34.out hbk hon
                      clear hbk hon; refine hKK _ _ ?_; clear hKK KK; simp only [Act.put]
                      refine take_at (i := 10) (v := ?_) rfl (by kernel_rfl) (by kernel_rfl) (by kernel_rfl) (fun _ _ _ h => h) (some 9) rfl (Or.inl ⟨by rfl, ?_⟩) ?_
                      rotate_left 1
                      · intro w; go_simp; try with_reducible rfl
                      simp only [Act.put, List.setIfInBounds_toArray, List.set_cons_zero, List.set_cons_succ]
                      refine take_at (i := 11) (v := ?_) rfl (by kernel_rfl) (by kernel_rfl) (by kernel_rfl) (fun _ _ _ h => h) (some 10) rfl (Or.inl ⟨by rfl, ?_⟩) ?_
                      rotate_left 1
                      · intro w; go_simp; try with_reducible rfl
                      simp only [Act.put, List.setIfInBounds_toArray, List.set_cons_zero, List.set_cons_succ]
                      refine wpAny_done (by kernel_rfl) ?_ _
                      exact HSH _ _ _ _ _ _ _ _ HX
                    exact AllReady.nil
                  exact AllReady.nil
                refine AllReady.cons rfl (fun KK hKK => ?_) ?_
                · skip
                  go_simp
                  refine hKK _ _ ?_; clear hKK KK; try simp only [Act.put, List.setIfInBounds_toArray, List.set_cons_zero, List.set_cons_succ]
                  change wpAny _ _ _ _ _ _ _ (x0.alloc (.cells tlZ 27))
                  have hal := (Below.refl x0.heap.size x0).alloc (Nat.le_refl _) (.cells tlZ 27)
                  have HBx36 := Lib.hid ((HBx0.out).trans (hal.mono (HBx0.out).size)); have HP36 := Lib.hid (Blk.new x0 27 tlZ); have HQ := Lib.hid ((HBx0.out).size)
                  clear hal
                  generalize x0.alloc (.cells tlZ 27) = x36 at *
                  obtain ⟨p, hp⟩ : ∃ p, p = x0.heap.size := ⟨_, rfl⟩
                  rw [← hp] at HP36 HQ ⊢; clear hp
                  refine wpAny_ready (rs := [1]) (by kernel_rfl) (by simp) ?_
                  refine AllReady.cons rfl (fun KK hKK => ?_) ?_
                  · skip
                    refine step_call1 (by rfl) 13 (.tmp 47) _ (by rfl) (tlV A c t) (by rfl) (fun _ _ => rfl) _ (copy_any A c t x36 ((G5.out.l).below HBx36.out) (Nat.le_trans (HN.out).1 (by decide))) (some 48) rfl ?_
                    rintro e x37 ⟨A5, c5, rfl, ho5, hb⟩
                    refine ⟨_, rfl, ?_⟩
                    have HBx37 := Lib.hid ((HBx36.out).trans (hb.mono (HBx36.out).size)); have HC37 := Lib.hid ho5.rgs
                    have HP37 := Lib.hid (HP36.out.below hb HP36.out.lt)
                    clear hb ho5; refine hKK _ _ ?_; clear hKK KK; simp only [Act.put, List.setIfInBounds_toArray, List.set_cons_zero, List.set_cons_succ]
                    refine wpAny_ready (rs := [3]) (by kernel_rfl) (by simp) ?_
                    refine AllReady.cons rfl (fun KK hKK => ?_) ?_
                    · skip
                      refine step_call2 (by rfl) 22 (.tmp 48) (.tmp 49) _ (by rfl) (tlV A5 c5 t) (cmV (twM 9 h t (1 + z))) (by rfl) (by rfl) (fun _ _ => rfl) _ (do_as (w := x37) HC37.out (HN.out) (Hhs.out) ((G5.out.tb).below HBx37.out) (Ht1.out) (He1.out) (Hc1.out)) (some 50) rfl ?_
                      rintro e x38 ⟨A6, c6, B6, e6, rfl, ho6, he6, hb⟩
                      refine ⟨_, rfl, ?_⟩
                      have HBx38 := Lib.hid ((HBx37.out).trans (hb.mono (HBx37.out).size)); have HO38 := Lib.hid (Own.base ho6 (HBx37.out).size); have HE38 := Lib.hid (OwnE.base he6 (HBx37.out).size)
                      have HP38 := Lib.hid (HP37.out.below hb HP37.out.lt)
                      clear hb ho6 he6; refine hKK _ _ ?_; clear hKK KK; simp only [Act.put, List.setIfInBounds_toArray, List.set_cons_zero, List.set_cons_succ]
                      refine take_at (i := 4) (v := ?_) rfl (by kernel_rfl) (by kernel_rfl) (by kernel_rfl) (fun _ _ _ h => h) (some 46) rfl (Or.inl ⟨by rfl, ?_⟩) ?_
                      rotate_left 1
                      · intro w; go_simp; try with_reducible rfl
                      simp only [Act.put, List.setIfInBounds_toArray, List.set_cons_zero, List.set_cons_succ]
                      refine take_at (i := 5) (v := ?_) rfl (by kernel_rfl) (by kernel_rfl) (by kernel_rfl) (fun _ _ _ h => h) (some 51) rfl (Or.inl ⟨by rfl, ?_⟩) ?_
                      rotate_left 1
                      · intro w; go_simp; try with_reducible rfl
                      simp only [Act.put, List.setIfInBounds_toArray, List.set_cons_zero, List.set_cons_succ]
                      refine take_at (i := 6) (v := ?_) rfl (by kernel_rfl) (by kernel_rfl) (by kernel_rfl) (fun _ _ _ h => h) (some 52) rfl (Or.inl ⟨by rfl, ?_⟩) ?_
                      rotate_left 1
                      · intro w; go_simp; try with_reducible rfl
                      simp only [Act.put, List.setIfInBounds_toArray, List.set_cons_zero, List.set_cons_succ]
                      refine take_at (i := 7) (v := ?_) rfl (by kernel_rfl) (by kernel_rfl) (by kernel_rfl) (fun _ _ _ h => h) (some 53) rfl (Or.inl ⟨by rfl, ?_⟩) ?_
                      rotate_left 1
                      · intro w; go_simp; try with_reducible rfl
                      simp only [Act.put, List.setIfInBounds_toArray, List.set_cons_zero, List.set_cons_succ]
                      refine wpAny_ready (rs := [9]) (by kernel_rfl) (by simp) ?_
                      refine AllReady.cons rfl (fun KK hKK => ?_) AllReady.nil
                      refine step_store (by rfl) 27 (.tmp 8) (.tmp 51) (by rfl) _ (tlC A6 c6 (u)) (by rfl) (by rfl) 27 tlZ HP38.out size27 rfl (tlC_one ..) none rfl ?_
                      intro v hbk hon
                      have HX := DoBox.made (A5 := A5) (c5 := c5) HBx38.out HQ.out HP38.out HO38.out HE38.out hbk hon
                      clear hbk hon; refine hKK _ _ ?_; clear hKK KK; simp only [Act.put]
                      refine take_at (i := 10) (v := ?_) rfl (by kernel_rfl) (by kernel_rfl) (by kernel_rfl) (fun _ _ _ h => h) (some 9) rfl (Or.inl ⟨by rfl, ?_⟩) ?_
                      rotate_left 1
                      · intro w; go_simp; try with_reducible rfl
                      simp only [Act.put, List.setIfInBounds_toArray, List.set_cons_zero, List.set_cons_succ]
                      refine take_at (i := 11) (v := ?_) rfl (by kernel_rfl) (by kernel_rfl) (by kernel_rfl) (fun _ _ _ h => h) (some 10) rfl (Or.inl ⟨by rfl, ?_⟩) ?_
                      rotate_left 1
                      · intro w; go_simp; try with_reducible rfl
                      simp only [Act.put, List.setIfInBounds_toArray, List.set_cons_zero, List.set_cons_succ]
                      refine wpAny_done (by kernel_rfl) ?_ _
                      exact HSH _ _ _ _ _ _ _ _ HX
                    exact AllReady.nil
                  exact AllReady.nil
                exact AllReady.nil
              refine AllReady.cons rfl (fun KK hKK => ?_) ?_
              · skip
                go_simp
                refine hKK _ _ ?_; clear hKK KK; try simp only [Act.put, List.setIfInBounds_toArray, List.set_cons_zero, List.set_cons_succ]
                change wpAny _ _ _ _ _ _ _ (x0.alloc (.cells tlZ 27))
                have hal := (Below.refl x0.heap.size x0).alloc (Nat.le_refl _) (.cells tlZ 27)
                have HBx40 := Lib.hid ((HBx0.out).trans (hal.mono (HBx0.out).size)); have HP40 := Lib.hid (Blk.new x0 27 tlZ); have HQ := Lib.hid ((HBx0.out).size)
                clear hal
                generalize x0.alloc (.cells tlZ 27) = x40 at *
                obtain ⟨p, hp⟩ : ∃ p, p = x0.heap.size := ⟨_, rfl⟩
                rw [← hp] at HP40 HQ ⊢; clear hp
                refine wpAny_ready (rs := [0]) (by kernel_rfl) (by simp) ?_
                refine AllReady.cons rfl (fun KK hKK => ?_) ?_
                · skip
                  refine step_load (by rfl) 27 (.tmp 3) (by rfl) w.heap.size (by rfl) 27 (tlC A c t) ((G5.out.b).below HBx40.out (G5.out.b).lt) _ Tryd.underlying27 rfl size27 (some 47) rfl ?_
                  refine hKK _ _ ?_; clear hKK KK; simp only [Act.put, List.setIfInBounds_toArray, List.set_cons_zero, List.set_cons_succ]
                  refine wpAny_ready (rs := [1]) (by kernel_rfl) (by simp) ?_
                  refine AllReady.cons rfl (fun KK hKK => ?_) ?_
                  · skip
                    refine step_call1 (by rfl) 13 (.tmp 47) _ (by rfl) (tlV A c t) (by rfl) (fun _ _ => rfl) _ (copy_any A c t x40 ((G5.out.l).below HBx40.out) (Nat.le_trans (HN.out).1 (by decide))) (some 48) rfl ?_
                    rintro e x41 ⟨A5, c5, rfl, ho5, hb⟩
                    refine ⟨_, rfl, ?_⟩
                    have HBx41 := Lib.hid ((HBx40.out).trans (hb.mono (HBx40.out).size)); have HC41 := Lib.hid ho5.rgs
                    have HP41 := Lib.hid (HP40.out.below hb HP40.out.lt)
                    clear hb ho5; refine hKK _ _ ?_; clear hKK KK; simp only [Act.put, List.setIfInBounds_toArray, List.set_cons_zero, List.set_cons_succ]
                    refine wpAny_ready (rs := [3]) (by kernel_rfl) (by simp) ?_
                    refine AllReady.cons rfl (fun KK hKK => ?_) ?_
                    · skip
                      refine step_call2 (by rfl) 22 (.tmp 48) (.tmp 49) _ (by rfl) (tlV A5 c5 t) (cmV (twM 9 h t (1 + z))) (by rfl) (by rfl) (fun _ _ => rfl) _ (do_as (w := x41) HC41.out (HN.out) (Hhs.out) ((G5.out.tb).below HBx41.out) (Ht1.out) (He1.out) (Hc1.out)) (some 50) rfl ?_
                      rintro e x42 ⟨A6, c6, B6, e6, rfl, ho6, he6, hb⟩
                      refine ⟨_, rfl, ?_⟩
                      have HBx42 := Lib.hid ((HBx41.out).trans (hb.mono (HBx41.out).size)); have HO42 := Lib.hid (Own.base ho6 (HBx41.out).size); have HE42 := Lib.hid (OwnE.base he6 (HBx41.out).size)
                      have HP42 := Lib.hid (HP41.out.below hb HP41.out.lt)
                      clear hb ho6 he6; refine hKK _ _ ?_; clear hKK KK; simp only [Act.put, List.setIfInBounds_toArray, List.set_cons_zero, List.set_cons_succ]
                      refine take_at (i := 4) (v := ?_) rfl (by kernel_rfl) (by kernel_rfl) (by kernel_rfl) (fun _ _ _ h => h) (some 46) rfl (Or.inl ⟨by rfl, ?_⟩) ?_
                      rotate_left 1
                      · intro w; go_simp; try with_reducible rfl
                      simp only [Act.put, List.setIfInBounds_toArray, List.set_cons_zero, List.set_cons_succ]
                      refine take_at (i := 5) (v := ?_) rfl (by kernel_rfl) (by kernel_rfl) (by kernel_rfl) (fun _ _ _ h => h) (some 51) rfl (Or.inl ⟨by rfl, ?_⟩) ?_
                      rotate_left 1
                      · intro w; go_simp; try with_reducible rfl
                      simp only [Act.put, List.setIfInBounds_toArray, List.set_cons_zero, List.set_cons_succ]
                      refine take_at (i := 6) (v := ?_) rfl (by kernel_rfl) (by kernel_rfl) (by kernel_rfl) (fun _ _ _ h => h) (some 52) rfl (Or.inl ⟨by rfl, ?_⟩) ?_
                      rotate_left 1
                      · intro w; go_simp; try with_reducible rfl
                      simp only [Act.put, List.setIfInBounds_toArray, List.set_cons_zero, List.set_cons_succ]
                      refine take_at (i := 7) (v := ?_) rfl (by kernel_rfl) (by kernel_rfl) (by kernel_rfl) (fun _ _ _ h => h) (some 53) rfl (Or.inl ⟨by rfl, ?_⟩) ?_
                      rotate_left 1
                      · intro w; go_simp; try with_reducible rfl
                      simp only [Act.put, List.setIfInBounds_toArray, List.set_cons_zero, List.set_cons_succ]
                      refine wpAny_ready (rs := [9]) (by kernel_rfl) (by simp) ?_
                      refine AllReady.cons rfl (fun KK hKK => ?_) AllReady.nil
                      refine step_store (by rfl) 27 (.tmp 8) (.tmp 51) (by rfl) _ (tlC A6 c6 (u)) (by rfl) (by rfl) 27 tlZ HP42.out size27 rfl (tlC_one ..) none rfl ?_
                      intro v hbk hon
                      have HX := DoBox.made (A5 := A5) (c5 := c5) HBx42.out HQ.out HP42.out HO42.out HE42.out hbk hon
                      clear hbk hon; refine hKK _ _ ?_; clear hKK KK; simp only [Act.put]
                      refine take_at (i := 10) (v := ?_) rfl (by kernel_rfl) (by kernel_rfl) (by kernel_rfl) (fun _ _ _ h => h) (some 9) rfl (Or.inl ⟨by rfl, ?_⟩) ?_
                      rotate_left 1
                      · intro w; go_simp; try with_reducible rfl
                      simp only [Act.put, List.setIfInBounds_toArray, List.set_cons_zero, List.set_cons_succ]
                      refine take_at (i := 11) (v := ?_) rfl (by kernel_rfl) (by kernel_rfl) (by kernel_rfl) (fun _ _ _ h => h) (some 10) rfl (Or.inl ⟨by rfl, ?_⟩) ?_
                      rotate_left 1
                      · intro w; go_simp; try with_reducible rfl
                      simp only [Act.put, List.setIfInBounds_toArray, List.set_cons_zero, List.set_cons_succ]
                      refine wpAny_done (by kernel_rfl) ?_ _
                      exact HSH _ _ _ _ _ _ _ _ HX
                    exact AllReady.nil
                  exact AllReady.nil
                exact AllReady.nil
              exact AllReady.nil
            refine AllReady.cons rfl (fun KK hKK => ?_) ?_
            · skip
              go_simp
              refine hKK _ _ ?_; clear hKK KK; try simp only [Act.put, List.setIfInBounds_toArray, List.set_cons_zero, List.set_cons_succ]
              change wpAny _ _ _ _ _ _ _ (x0.alloc (.cells tlZ 27))
              have hal := (Below.refl x0.heap.size x0).alloc (Nat.le_refl _) (.cells tlZ 27)
              have HBx44 := Lib.hid ((HBx0.out).trans (hal.mono (HBx0.out).size)); have HP44 := Lib.hid (Blk.new x0 27 tlZ); have HQ := Lib.hid ((HBx0.out).size)
              clear hal
              generalize x0.alloc (.cells tlZ 27) = x44 at *
              obtain ⟨p, hp⟩ : ∃ p, p = x0.heap.size := ⟨_, rfl⟩
              rw [← hp] at HP44 HQ ⊢; clear hp
              refine wpAny_ready (rs := [0, 2]) (by kernel_rfl) (by simp) ?_
              refine AllReady.cons rfl (fun KK hKK => ?_) ?_
              · skip
                refine step_load (by rfl) 27 (.tmp 3) (by rfl) w.heap.size (by rfl) 27 (tlC A c t) ((G5.out.b).below HBx44.out (G5.out.b).lt) _ Tryd.underlying27 rfl size27 (some 47) rfl ?_
                refine hKK _ _ ?_; clear hKK KK; simp only [Act.put, List.setIfInBounds_toArray, List.set_cons_zero, List.set_cons_succ]
                refine wpAny_ready (rs := [1, 2]) (by kernel_rfl) (by simp) ?_
                refine AllReady.cons rfl (fun KK hKK => ?_) ?_
                · skip
                  refine step_call1 (by rfl) 13 (.tmp 47) _ (by rfl) (tlV A c t) (by rfl) (fun _ _ => rfl) _ (copy_any A c t x44 ((G5.out.l).below HBx44.out) (Nat.le_trans (HN.out).1 (by decide))) (some 48) rfl ?_
                  rintro e x45 ⟨A5, c5, rfl, ho5, hb⟩
                  refine ⟨_, rfl, ?_⟩
                  have HBx45 := Lib.hid ((HBx44.out).trans (hb.mono (HBx44.out).size)); have HC45 := Lib.hid ho5.rgs
                  have HP45 := Lib.hid (HP44.out.below hb HP44.out.lt)
                  clear hb ho5; refine hKK _ _ ?_; clear hKK KK; simp only [Act.put, List.setIfInBounds_toArray, List.set_cons_zero, List.set_cons_succ]
                  refine wpAny_ready (rs := [2]) (by kernel_rfl) (by simp) ?_
                  refine AllReady.cons rfl (fun KK hKK => ?_) ?_
                  · skip
                    refine step_load (by rfl) 37 (.tmp 7) (by rfl) pm (by rfl) 37 (cmC (twM 9 h t (1 + z))) ((HCM.out).below HBx45.out (HCM.out).lt) _ Tryd.underlying37 rfl size37 (some 49) rfl ?_
                    refine hKK _ _ ?_; clear hKK KK; simp only [Act.put, List.setIfInBounds_toArray, List.set_cons_zero, List.set_cons_succ]
                    refine wpAny_ready (rs := [3]) (by kernel_rfl) (by simp) ?_
                    refine AllReady.cons rfl (fun KK hKK => ?_) ?_
                    · skip
                      refine step_call2 (by rfl) 22 (.tmp 48) (.tmp 49) _ (by rfl) (tlV A5 c5 t) (cmV (twM 9 h t (1 + z))) (by rfl) (by rfl) (fun _ _ => rfl) _ (do_as (w := x45) HC45.out (HN.out) (Hhs.out) ((G5.out.tb).below HBx45.out) (Ht1.out) (He1.out) (Hc1.out)) (some 50) rfl ?_
                      rintro e x46 ⟨A6, c6, B6, e6, rfl, ho6, he6, hb⟩
                      refine ⟨_, rfl, ?_⟩
                      have HBx46 := Lib.hid ((HBx45.out).trans (hb.mono (HBx45.out).size)); have HO46 := Lib.hid (Own.base ho6 (HBx45.out).size); have HE46 := Lib.hid (OwnE.base he6 (HBx45.out).size)
                      have HP46 := Lib.hid (HP45.out.below hb HP45.out.lt)
                      clear hb ho6 he6; refine hKK _ _ ?_; clear hKK KK; simp only [Act.put, List.setIfInBounds_toArray, List.set_cons_zero, List.set_cons_succ]
                      refine take_at (i := 4) (v := ?_) rfl (by kernel_rfl) (by kernel_rfl) (by kernel_rfl) (fun _ _ _ h => h) (some 46) rfl (Or.inl ⟨by rfl, ?_⟩) ?_
                      rotate_left 1
                      · intro w; go_simp; try with_reducible rfl
                      simp only [Act.put, List.setIfInBounds_toArray, List.set_cons_zero, List.set_cons_succ]
                      refine take_at (i := 5) (v := ?_) rfl (by kernel_rfl) (by kernel_rfl) (by kernel_rfl) (fun _ _ _ h => h) (some 51) rfl (Or.inl ⟨by rfl, ?_⟩) ?_
                      rotate_left 1
                      · intro w; go_simp; try with_reducible rfl
                      simp only [Act.put, List.setIfInBounds_toArray, List.set_cons_zero, List.set_cons_succ]
                      refine take_at (i := 6) (v := ?_) rfl (by kernel_rfl) (by kernel_rfl) (by kernel_rfl) (fun _ _ _ h => h) (some 52) rfl (Or.inl ⟨by rfl, ?_⟩) ?_
                      rotate_left 1
                      · intro w; go_simp; try with_reducible rfl
                      simp only [Act.put, List.setIfInBounds_toArray, List.set_cons_zero, List.set_cons_succ]
                      refine take_at (i := 7) (v := ?_) rfl (by kernel_rfl) (by kernel_rfl) (by kernel_rfl) (fun _ _ _ h => h) (some 53) rfl (Or.inl ⟨by rfl, ?_⟩) ?_
                      rotate_left 1
                      · intro w; go_simp; try with_reducible rfl
                      simp only [Act.put, List.setIfInBounds_toArray, List.set_cons_zero, List.set_cons_succ]
                      refine wpAny_ready (rs := [9]) (by kernel_rfl) (by simp) ?_
                      refine AllReady.cons rfl (fun KK hKK => ?_) AllReady.nil
                      refine step_store (by rfl) 27 (.tmp 8) (.tmp 51) (by rfl) _ (tlC A6 c6 (u)) (by rfl) (by rfl) 27 tlZ HP46.out size27 rfl (tlC_one ..) none rfl ?_
                      intro v hbk hon
                      have HX := DoBox.made (A5 := A5) (c5 := c5) HBx46.out HQ.out HP46.out HO46.out HE46.out hbk hon
                      clear hbk hon; refine hKK _ _ ?_; clear hKK KK; simp only [Act.put]
                      refine take_at (i := 10) (v := ?_) rfl (by kernel_rfl) (by kernel_rfl) (by kernel_rfl) (fun _ _ _ h => h) (some 9) rfl (Or.inl ⟨by rfl, ?_⟩) ?_
                      rotate_left 1
                      · intro w; go_simp; try with_reducible rfl
                      simp only [Act.put, List.setIfInBounds_toArray, List.set_cons_zero, List.set_cons_succ]
                      refine take_at (i := 11) (v := ?_) rfl (by kernel_rfl) (by kernel_rfl) (by kernel_rfl) (fun _ _ _ h => h) (some 10) rfl (Or.inl ⟨by rfl, ?_⟩) ?_
                      rotate_left 1
                      · intro w; go_simp; try with_reducible rfl
                      simp only [Act.put, List.setIfInBounds_toArray, List.set_cons_zero, List.set_cons_succ]
                      refine wpAny_done (by kernel_rfl) ?_ _
                      exact HSH _ _ _ _ _ _ _ _ HX
                    exact AllReady.nil
                  exact AllReady.nil
                refine AllReady.cons rfl (fun KK hKK => ?_) ?_
                · skip
                  refine step_load (by rfl) 37 (.tmp 7) (by rfl) pm (by rfl) 37 (cmC (twM 9 h t (1 + z))) ((HCM.out).below HBx44.out (HCM.out).lt) _ Tryd.underlying37 rfl size37 (some 49) rfl ?_
                  refine hKK _ _ ?_; clear hKK KK; simp only [Act.put, List.setIfInBounds_toArray, List.set_cons_zero, List.set_cons_succ]
                  refine wpAny_ready (rs := [1]) (by kernel_rfl) (by simp) ?_
                  refine AllReady.cons rfl (fun KK hKK => ?_) ?_
                  · skip
                    refine step_call1 (by rfl) 13 (.tmp 47) _ (by rfl) (tlV A c t) (by rfl) (fun _ _ => rfl) _ (copy_any A c t x44 ((G5.out.l).below HBx44.out) (Nat.le_trans (HN.out).1 (by decide))) (some 48) rfl ?_
                    rintro e x48 ⟨A5, c5, rfl, ho5, hb⟩
                    refine ⟨_, rfl, ?_⟩
                    have HBx48 := Lib.hid ((HBx44.out).trans (hb.mono (HBx44.out).size)); have HC48 := Lib.hid ho5.rgs
                    have HP48 := Lib.hid (HP44.out.below hb HP44.out.lt)
                    clear hb ho5; refine hKK _ _ ?_; clear hKK KK; simp only [Act.put, List.setIfInBounds_toArray, List.set_cons_zero, List.set_cons_succ]
                    refine wpAny_ready (rs := [3]) (by kernel_rfl) (by simp) ?_
                    refine AllReady.cons rfl (fun KK hKK => ?_) ?_
                    · skip
                      refine step_call2 (by rfl) 22 (.tmp 48) (.tmp 49) _ (by rfl) (tlV A5 c5 t) (cmV (twM 9 h t (1 + z))) (by rfl) (by rfl) (fun _ _ => rfl) _ (do_as (w := x48) HC48.out (HN.out) (Hhs.out) ((G5.out.tb).below HBx48.out) (Ht1.out) (He1.out) (Hc1.out)) (some 50) rfl ?_
                      rintro e x49 ⟨A6, c6, B6, e6, rfl, ho6, he6, hb⟩
                      refine ⟨_, rfl, ?_⟩
                      have HBx49 := Lib.hid ((HBx48.out).trans (hb.mono (HBx48.out).size)); have HO49 := Lib.hid (Own.base ho6 (HBx48.out).size); have HE49 := Lib.hid (OwnE.base he6 (HBx48.out).size)
                      have HP49 := Lib.hid (HP48.out.below hb HP48.out.lt)
                      clear hb ho6 he6; refine hKK _ _ ?_; clear hKK KK; simp only [Act.put, List.setIfInBounds_toArray, List.set_cons_zero, List.set_cons_succ]
                      refine take_at (i := 4) (v := ?_) rfl (by kernel_rfl) (by kernel_rfl) (by kernel_rfl) (fun _ _ _ h => h) (some 46) rfl (Or.inl ⟨by rfl, ?_⟩) ?_
                      rotate_left 1
                      · intro w; go_simp; try with_reducible rfl
                      simp only [Act.put, List.setIfInBounds_toArray, List.set_cons_zero, List.set_cons_succ]
                      refine take_at (i := 5) (v := ?_) rfl (by kernel_rfl) (by kernel_rfl) (by kernel_rfl) (fun _ _ _ h => h) (some 51) rfl (Or.inl ⟨by rfl, ?_⟩) ?_
                      rotate_left 1
                      · intro w; go_simp; try with_reducible rfl
                      simp only [Act.put, List.setIfInBounds_toArray, List.set_cons_zero, List.set_cons_succ]
                      refine take_at (i := 6) (v := ?_) rfl (by kernel_rfl) (by kernel_rfl) (by kernel_rfl) (fun _ _ _ h => h) (some 52) rfl (Or.inl ⟨by rfl, ?_⟩) ?_
                      rotate_left 1
                      · intro w; go_simp; try with_reducible rfl
                      simp only [Act.put, List.setIfInBounds_toArray, List.set_cons_zero, List.set_cons_succ]
                      refine take_at (i := 7) (v := ?_) rfl (by kernel_rfl) (by kernel_rfl) (by kernel_rfl) (fun _ _ _ h => h) (some 53) rfl (Or.inl ⟨by rfl, ?_⟩) ?_
                      rotate_left 1
                      · intro w; go_simp; try with_reducible rfl
                      simp only [Act.put, List.setIfInBounds_toArray, List.set_cons_zero, List.set_cons_succ]
                      refine wpAny_ready (rs := [9]) (by kernel_rfl) (by simp) ?_
                      refine AllReady.cons rfl (fun KK hKK => ?_) AllReady.nil
                      refine step_store (by rfl) 27 (.tmp 8) (.tmp 51) (by rfl) _ (tlC A6 c6 (u)) (by rfl) (by rfl) 27 tlZ HP49.out size27 rfl (tlC_one ..) none rfl ?_
                      intro v hbk hon
                      have HX := DoBox.made (A5 := A5) (c5 := c5) HBx49.out HQ.out HP49.out HO49.out HE49.out hbk hon
                      clear hbk hon; refine hKK _ _ ?_; clear hKK KK; simp only [Act.put]
                      refine take_at (i := 10) (v := ?_) rfl (by kernel_rfl) (by kernel_rfl) (by kernel_rfl) (fun _ _ _ h => h) (some 9) rfl (Or.inl ⟨by rfl, ?_⟩) ?_
                      rotate_left 1
                      · intro w; go_simp; try with_reducible rfl
                      simp only [Act.put, List.setIfInBounds_toArray, List.set_cons_zero, List.set_cons_succ]
                      refine take_at (i := 11) (v := ?_) rfl (by kernel_rfl) (by kernel_rfl) (by kernel_rfl) (fun _ _ _ h => h) (some 10) rfl (Or.inl ⟨by rfl, ?_⟩) ?_
                      rotate_left 1
                      · intro w; go_simp; try with_reducible rfl
                      simp only [Act.put, List.setIfInBounds_toArray, List.set_cons_zero, List.set_cons_succ]
                      refine wpAny_done (by kernel_rfl) ?_ _
                      exact HSH _ _ _ _ _ _ _ _ HX
                    exact AllReady.nil
                  exact AllReady.nil
                exact AllReady.nil
              refine AllReady.cons rfl (fun KK hKK => ?_) ?_
              · skip
                refine step_load (by rfl) 37 (.tmp 7) (by rfl) pm (by rfl) 37 (cmC (twM 9 h t (1 + z))) ((HCM.out).below HBx44.out (HCM.out).lt) _ Tryd.underlying37 rfl size37 (some 49) rfl ?_
                refine hKK _ _ ?_; clear hKK KK; simp only [Act.put, List.setIfInBounds_toArray, List.set_cons_zero, List.set_cons_succ]
                refine wpAny_ready (rs := [0]) (by kernel_rfl) (by simp) ?_
                refine AllReady.cons rfl (fun KK hKK => ?_) ?_
                · skip
                  refine step_load (by rfl) 27 (.tmp 3) (by rfl) w.heap.size (by rfl) 27 (tlC A c t) ((G5.out.b).below HBx44.out (G5.out.b).lt) _ Tryd.underlying27 rfl size27 (some 47) rfl ?_
                  refine hKK _ _ ?_; clear hKK KK; simp only [Act.put, List.setIfInBounds_toArray, List.set_cons_zero, List.set_cons_succ]
                  refine wpAny_ready (rs := [1]) (by kernel_rfl) (by simp) ?_
                  refine AllReady.cons rfl (fun KK hKK => ?_) ?_
                  · skip
                    refine step_call1 (by rfl) 13 (.tmp 47) _ (by rfl) (tlV A c t) (by rfl) (fun _ _ => rfl) _ (copy_any A c t x44 ((G5.out.l).below HBx44.out) (Nat.le_trans (HN.out).1 (by decide))) (some 48) rfl ?_
                    rintro e x51 ⟨A5, c5, rfl, ho5, hb⟩
                    refine ⟨_, rfl, ?_⟩
                    have HBx51 := Lib.hid ((HBx44.out).trans (hb.mono (HBx44.out).size)); have HC51 := Lib.hid ho5.rgs
                    have HP51 := Lib.hid (HP44.out.below hb HP44.out.lt)
                    clear hb ho5; refine hKK _ _ ?_; clear hKK KK; simp only [Act.put, List.setIfInBounds_toArray, List.set_cons_zero, List.set_cons_succ]
                    refine wpAny_ready (rs := [3]) (by kernel_rfl) (by simp) ?_
                    refine AllReady.cons rfl (fun KK hKK => ?_) ?_
                    · skip
                      refine step_call2 (by rfl) 22 (.tmp 48) (.tmp 49) _ (by rfl) (tlV A5 c5 t) (cmV (twM 9 h t (1 + z))) (by rfl) (by rfl) (fun _ _ => rfl) _ (do_as (w := x51) HC51.out (HN.out) (Hhs.out) ((G5.out.tb).below HBx51.out) (Ht1.out) (He1.out) (Hc1.out)) (some 50) rfl ?_
                      rintro e x52 ⟨A6, c6, B6, e6, rfl, ho6, he6, hb⟩
                      refine ⟨_, rfl, ?_⟩
                      have HBx52 := Lib.hid ((HBx51.out).trans (hb.mono (HBx51.out).size)); have HO52 := Lib.hid (Own.base ho6 (HBx51.out).size); have HE52 := Lib.hid (OwnE.base he6 (HBx51.out).size)
                      have HP52 := Lib.hid (HP51.out.below hb HP51.out.lt)
                      clear hb ho6 he6; refine hKK _ _ ?_; clear hKK KK; simp only [Act.put, List.setIfInBounds_toArray, List.set_cons_zero, List.set_cons_succ]
                      refine take_at (i := 4) (v := ?_) rfl (by kernel_rfl) (by kernel_rfl) (by kernel_rfl) (fun _ _ _ h => h) (some 46) rfl (Or.inl ⟨by rfl, ?_⟩) ?_
                      rotate_left 1
                      · intro w; go_simp; try with_reducible rfl
                      simp only [Act.put, List.setIfInBounds_toArray, List.set_cons_zero, List.set_cons_succ]
                      refine take_at (i := 5) (v := ?_) rfl (by kernel_rfl) (by kernel_rfl) (by kernel_rfl) (fun _ _ _ h => h) (some 51) rfl (Or.inl ⟨by rfl, ?_⟩) ?_
                      rotate_left 1
                      · intro w; go_simp; try with_reducible rfl
                      simp only [Act.put, List.setIfInBounds_toArray, List.set_cons_zero, List.set_cons_succ]
                      refine take_at (i := 6) (v := ?_) rfl (by kernel_rfl) (by kernel_rfl) (by kernel_rfl) (fun _ _ _ h => h) (some 52) rfl (Or.inl ⟨by rfl, ?_⟩) ?_
                      rotate_left 1
                      · intro w; go_simp; try with_reducible rfl
                      simp only [Act.put, List.setIfInBounds_toArray, List.set_cons_zero, List.set_cons_succ]
                      refine take_at (i := 7) (v := ?_) rfl (by kernel_rfl) (by kernel_rfl) (by kernel_rfl) (fun _ _ _ h => h) (some 53) rfl (Or.inl ⟨by rfl, ?_⟩) ?_
                      rotate_left 1
                      · intro w; go_simp; try with_reducible rfl
                      simp only [Act.put, List.setIfInBounds_toArray, List.set_cons_zero, List.set_cons_succ]
                      refine wpAny_ready (rs := [9]) (by kernel_rfl) (by simp) ?_
                      refine AllReady.cons rfl (fun KK hKK => ?_) AllReady.nil
                      refine step_store (by rfl) 27 (.tmp 8) (.tmp 51) (by rfl) _ (tlC A6 c6 (u)) (by rfl) (by rfl) 27 tlZ HP52.out size27 rfl (tlC_one ..) none rfl ?_
                      intro v hbk hon
                      have HX := DoBox.made (A5 := A5) (c5 := c5) HBx52.out HQ.out HP52.out HO52.out HE52.out hbk hon
                      clear hbk hon; refine hKK _ _ ?_; clear hKK KK; simp only [Act.put]
                      refine take_at (i := 10) (v := ?_) rfl (by kernel_rfl) (by kernel_rfl) (by kernel_rfl) (fun _ _ _ h => h) (some 9) rfl (Or.inl ⟨by rfl, ?_⟩) ?_
                      rotate_left 1
                      · intro w; go_simp; try with_reducible rfl
                      simp only [Act.put, List.setIfInBounds_toArray, List.set_cons_zero, List.set_cons_succ]
                      refine take_at (i := 11) (v := ?_) rfl (by kernel_rfl) (by kernel_rfl) (by kernel_rfl) (fun _ _ _ h => h) (some 10) rfl (Or.inl ⟨by rfl, ?_⟩) ?_
                      rotate_left 1
                      · intro w; go_simp; try with_reducible rfl
                      simp only [Act.put, List.setIfInBounds_toArray, List.set_cons_zero, List.set_cons_succ]
                      refine wpAny_done (by kernel_rfl) ?_ _
                      exact HSH _ _ _ _ _ _ _ _ HX
                    exact AllReady.nil
                  exact AllReady.nil
                exact AllReady.nil
              exact AllReady.nil
            exact AllReady.nil
          · skip
            intro v6 p1 A5 c5 A1 c1 B1 e1 HF
            obtain ⟨hb, hp, hbk, ho, he⟩ := HF
            have G6 := Lib.hid (G5.out.below hb); have HBp1 := Lib.hid hbk; have HOp1 := Lib.hid ho; have HEp1 := Lib.hid he; have HPp1 := Lib.hid hp; have HW6 := Lib.hid hb
            refine hKRx _ _ ?_
            clear hb hp hbk ho he hKRx KRx
            have HCM6 := Lib.hid (HCM.out.below HW6.out HCM.out.lt)
            have HPM := Lib.hid HCM.out.lt
            go_upto_region 5 with (fail)
            have HBy0 := Lib.hid (show Below v6.heap.size v6 v6.drew from (Below.refl _ _).drew)
            refine wp_region_any (by kernel_rfl) ?_
            change wpAny _ _ _ _ _ _ _ (World.drew v6)
            rename_i KRy hKRy
            generalize v6.drew = y0 at *
            apply share8 (DoBox v6 (u) ([]))
            · intro HSH
              refine wpAny_ready (rs := [0, 2, 8]) (by kernel_rfl) (by simp) ?_
              refine AllReady.cons rfl (fun KK hKK => ?_) ?_
              · skip
                refine step_load (by rfl) 27 (.tmp 8) (by rfl) p1 (by rfl) 27 (tlC A1 c1 u) ((HBp1.out).below HBy0.out (HBp1.out).lt) _ Tryd.underlying27 rfl size27 (some 55) rfl ?_
                refine hKK _ _ ?_; clear hKK KK; simp only [Act.put, List.setIfInBounds_toArray, List.set_cons_zero, List.set_cons_succ]
                refine wpAny_ready (rs := [1, 2, 8]) (by kernel_rfl) (by simp) ?_
                refine AllReady.cons rfl (fun KK hKK => ?_) ?_
                · skip
                  refine step_call1 (by rfl) 13 (.tmp 55) _ (by rfl) (tlV A1 c1 u) (by rfl) (fun _ _ => rfl) _ (copy_any A1 c1 u y0 ((HOp1.out.rgs).below HBy0.out) (Nat.le_trans (Hsm.out).1 (by decide))) (some 56) rfl ?_
                  rintro e y1 ⟨A5, c5, rfl, ho5, hb⟩
                  refine ⟨_, rfl, ?_⟩
                  have HBy1 := Lib.hid ((HBy0.out).trans (hb.mono (HBy0.out).size)); have HC1 := Lib.hid ho5.rgs
                  clear hb ho5; refine hKK _ _ ?_; clear hKK KK; simp only [Act.put, List.setIfInBounds_toArray, List.set_cons_zero, List.set_cons_succ]
                  refine wpAny_ready (rs := [2, 8]) (by kernel_rfl) (by simp) ?_
                  refine AllReady.cons rfl (fun KK hKK => ?_) ?_
                  · skip
                    refine step_load (by rfl) 37 (.tmp 7) (by rfl) pm (by rfl) 37 (cmC (twM 9 h t (1 + z))) ((HCM6.out).below HBy1.out (HCM6.out).lt) _ Tryd.underlying37 rfl size37 (some 57) rfl ?_
                    refine hKK _ _ ?_; clear hKK KK; simp only [Act.put, List.setIfInBounds_toArray, List.set_cons_zero, List.set_cons_succ]
                    refine wpAny_ready (rs := [3, 8]) (by kernel_rfl) (by simp) ?_
                    refine AllReady.cons rfl (fun KK hKK => ?_) ?_
                    · skip
                      refine step_call2 (by rfl) 22 (.tmp 56) (.tmp 57) _ (by rfl) (tlV A5 c5 u) (cmV (twM 9 h t (1 + z))) (by rfl) (by rfl) (fun _ _ => rfl) _ (do_as (w := y1) HC1.out (Hsm.out) (Hhs.out) ((G6.out.tb).below HBy1.out) (Ht2.out) (He2.out) (Hc2.out)) (some 58) rfl ?_
                      rintro e y2 ⟨A6, c6, B6, e6, rfl, ho6, he6, hb⟩
                      refine ⟨_, rfl, ?_⟩
                      have HBy2 := Lib.hid ((HBy1.out).trans (hb.mono (HBy1.out).size)); have HO2 := Lib.hid (Own.base ho6 (HBy1.out).size); have HE2 := Lib.hid (OwnE.base he6 (HBy1.out).size)
                      clear hb ho6 he6; refine hKK _ _ ?_; clear hKK KK; simp only [Act.put, List.setIfInBounds_toArray, List.set_cons_zero, List.set_cons_succ]
                      refine take_at (i := 4) (v := ?_) rfl (by kernel_rfl) (by kernel_rfl) (by kernel_rfl) (fun _ _ _ h => h) (some 54) rfl (Or.inl ⟨by rfl, ?_⟩) ?_
                      rotate_left 1
                      · intro w; go_simp; try with_reducible rfl
                      simp only [Act.put, List.setIfInBounds_toArray, List.set_cons_zero, List.set_cons_succ]
                      refine take_at (i := 5) (v := ?_) rfl (by kernel_rfl) (by kernel_rfl) (by kernel_rfl) (fun _ _ _ h => h) (some 59) rfl (Or.inl ⟨by rfl, ?_⟩) ?_
                      rotate_left 1
                      · intro w; go_simp; try with_reducible rfl
                      simp only [Act.put, List.setIfInBounds_toArray, List.set_cons_zero, List.set_cons_succ]
                      refine take_at (i := 6) (v := ?_) rfl (by kernel_rfl) (by kernel_rfl) (by kernel_rfl) (fun _ _ _ h => h) (some 60) rfl (Or.inl ⟨by rfl, ?_⟩) ?_
                      rotate_left 1
                      · intro w; go_simp; try with_reducible rfl
                      simp only [Act.put, List.setIfInBounds_toArray, List.set_cons_zero, List.set_cons_succ]
                      refine take_at (i := 7) (v := ?_) rfl (by kernel_rfl) (by kernel_rfl) (by kernel_rfl) (fun _ _ _ h => h) (some 61) rfl (Or.inl ⟨by rfl, ?_⟩) ?_
                      rotate_left 1
                      · intro w; go_simp; try with_reducible rfl
                      simp only [Act.put, List.setIfInBounds_toArray, List.set_cons_zero, List.set_cons_succ]
                      refine wpAny_ready (rs := [8]) (by kernel_rfl) (by simp) ?_
                      refine AllReady.cons rfl (fun KK hKK => ?_) ?_
                      · skip
                        go_simp
                        refine hKK _ _ ?_; clear hKK KK; try simp only [Act.put, List.setIfInBounds_toArray, List.set_cons_zero, List.set_cons_succ]
                        change wpAny _ _ _ _ _ _ _ (y2.alloc (.cells tlZ 27))
                        have hal := (Below.refl y2.heap.size y2).alloc (Nat.le_refl _) (.cells tlZ 27)
                        have HBy3 := Lib.hid ((HBy2.out).trans (hal.mono (HBy2.out).size)); have HP3 := Lib.hid (Blk.new y2 27 tlZ); have HQ := Lib.hid ((HBy2.out).size)
                        have HO3 := Lib.hid (HO2.out.below hal); have HE3 := Lib.hid (HE2.out.below hal)
                        clear hal
                        generalize y2.alloc (.cells tlZ 27) = y3 at *
                        obtain ⟨p, hp⟩ : ∃ p, p = y2.heap.size := ⟨_, rfl⟩
                        rw [← hp] at HP3 HQ ⊢; clear hp
                        refine wpAny_ready (rs := [9]) (by kernel_rfl) (by simp) ?_
                        refine AllReady.cons rfl (fun KK hKK => ?_) AllReady.nil
                        refine step_store (by rfl) 27 (.tmp 11) (.tmp 59) (by rfl) _ (tlC A6 c6 (u)) (by rfl) (by rfl) 27 tlZ HP3.out size27 rfl (tlC_one ..) none rfl ?_
                        intro v hbk hon
                        have HX := DoBox.made (A5 := A5) (c5 := c5) HBy3.out HQ.out HP3.out HO3.out HE3.out hbk hon
                        clear hbk hon; refine hKK _ _ ?_; clear hKK KK; simp only [Act.put]
                        refine take_at (i := 10) (v := ?_) rfl (by kernel_rfl) (by kernel_rfl) (by kernel_rfl) (fun _ _ _ h => h) (some 12) rfl (Or.inl ⟨by rfl, ?_⟩) ?_
                        rotate_left 1
                        · intro w; go_simp; try with_reducible rfl
                        simp only [Act.put, List.setIfInBounds_toArray, List.set_cons_zero, List.set_cons_succ]
                        refine take_at (i := 11) (v := ?_) rfl (by kernel_rfl) (by kernel_rfl) (by kernel_rfl) (fun _ _ _ h => h) (some 13) rfl (Or.inl ⟨by rfl, ?_⟩) ?_
                        rotate_left 1
                        · intro w; go_simp; try with_reducible rfl
                        simp only [Act.put, List.setIfInBounds_toArray, List.set_cons_zero, List.set_cons_succ]
                        refine wpAny_done (by kernel_rfl) ?_ _
                        exact HSH _ _ _ _ _ _ _ _ HX
                      exact AllReady.nil
                    refine AllReady.cons rfl (fun KK hKK => ?_) ?_
                    · skip
                      go_simp
                      refine hKK _ _ ?_; clear hKK KK; try simp only [Act.put, List.setIfInBounds_toArray, List.set_cons_zero, List.set_cons_succ]
                      change wpAny _ _ _ _ _ _ _ (y1.alloc (.cells tlZ 27))
                      have hal := (Below.refl y1.heap.size y1).alloc (Nat.le_refl _) (.cells tlZ 27)
                      have HBy5 := Lib.hid ((HBy1.out).trans (hal.mono (HBy1.out).size)); have HP5 := Lib.hid (Blk.new y1 27 tlZ); have HQ := Lib.hid ((HBy1.out).size)
                      have HC5 := Lib.hid (HC1.out.below hal)
                      clear hal
                      generalize y1.alloc (.cells tlZ 27) = y5 at *
                      obtain ⟨p, hp⟩ : ∃ p, p = y1.heap.size := ⟨_, rfl⟩
                      rw [← hp] at HP5 HQ ⊢; clear hp
                      refine wpAny_ready (rs := [3]) (by kernel_rfl) (by simp) ?_
                      refine AllReady.cons rfl (fun KK hKK => ?_) ?_
                      · skip
                        refine step_call2 (by rfl) 22 (.tmp 56) (.tmp 57) _ (by rfl) (tlV A5 c5 u) (cmV (twM 9 h t (1 + z))) (by rfl) (by rfl) (fun _ _ => rfl) _ (do_as (w := y5) HC5.out (Hsm.out) (Hhs.out) ((G6.out.tb).below HBy5.out) (Ht2.out) (He2.out) (Hc2.out)) (some 58) rfl ?_
                        rintro e y6 ⟨A6, c6, B6, e6, rfl, ho6, he6, hb⟩
                        refine ⟨_, rfl, ?_⟩
                        have HBy6 := Lib.hid ((HBy5.out).trans (hb.mono (HBy5.out).size)); have HO6 := Lib.hid (Own.base ho6 (HBy5.out).size); have HE6 := Lib.hid (OwnE.base he6 (HBy5.out).size)
                        have HP6 := Lib.hid (HP5.out.below hb HP5.out.lt)
                        clear hb ho6 he6; refine hKK _ _ ?_; clear hKK KK; simp only [Act.put, List.setIfInBounds_toArray, List.set_cons_zero, List.set_cons_succ]
                        refine take_at (i := 4) (v := ?_) rfl (by kernel_rfl) (by kernel_rfl) (by kernel_rfl) (fun _ _ _ h => h) (some 54) rfl (Or.inl ⟨by rfl, ?_⟩) ?_
                        rotate_left 1
                        · intro w; go_simp; try with_reducible rfl
                        simp only [Act.put, List.setIfInBounds_toArray, List.set_cons_zero, List.set_cons_succ]
                        refine take_at (i := 5) (v := ?_) rfl (by kernel_rfl) (by kernel_rfl) (by kernel_rfl) (fun _ _ _ h => h) (some 59) rfl (Or.inl ⟨by rfl, ?_⟩) ?_
                        rotate_left 1
                        · intro w; go_simp; try with_reducible rfl
                        simp only [Act.put, List.setIfInBounds_toArray, List.set_cons_zero, List.set_cons_succ]
                        refine take_at (i := 6) (v := ?_) rfl (by kernel_rfl) (by kernel_rfl) (by kernel_rfl) (fun _ _ _ h => h) (some 60) rfl (Or.inl ⟨by rfl, ?_⟩) ?_
                        rotate_left 1
                        · intro w; go_simp; try with_reducible rfl
                        simp only [Act.put, List.setIfInBounds_toArray, List.set_cons_zero, List.set_cons_succ]
                        refine take_at (i := 7) (v := ?_) rfl (by kernel_rfl) (by kernel_rfl) (by kernel_rfl) (fun _ _ _ h => h) (some 61) rfl (Or.inl ⟨by rfl, ?_⟩) ?_
                        rotate_left 1
                        · intro w; go_simp; try with_reducible rfl
                        simp only [Act.put, List.setIfInBounds_toArray, List.set_cons_zero, List.set_cons_succ]
                        refine wpAny_ready (rs := [9]) (by kernel_rfl) (by simp) ?_
                        refine AllReady.cons rfl (fun KK hKK => ?_) AllReady.nil
                        refine step_store (by rfl) 27 (.tmp 11) (.tmp 59) (by rfl) _ (tlC A6 c6 (u)) (by rfl) (by rfl) 27 tlZ HP6.out size27 rfl (tlC_one ..) none rfl ?_
                        intro v hbk hon
                        have HX := DoBox.made (A5 := A5) (c5 := c5) HBy6.out HQ.out HP6.out HO6.out HE6.out hbk hon
                        clear hbk hon; refine hKK _ _ ?_; clear hKK KK; simp only [Act.put]
                        refine take_at (i := 10) (v := ?_) rfl (by kernel_rfl) (by kernel_rfl) (by kernel_rfl) (fun _ _ _ h => h) (some 12) rfl (Or.inl ⟨by rfl, ?_⟩) ?_
                        rotate_left 1
                        · intro w; go_simp; try with_reducible rfl
                        simp only [Act.put, List.setIfInBounds_toArray, List.set_cons_zero, List.set_cons_succ]
                        refine take_at (i := 11) (v := ?_) rfl (by kernel_rfl) (by kernel_rfl) (by kernel_rfl) (fun _ _ _ h => h) (some 13) rfl (Or.inl ⟨by rfl, ?_⟩) ?_
                        rotate_left 1
                        · intro w; go_simp; try with_reducible rfl
                        simp only [Act.put, List.setIfInBounds_toArray, List.set_cons_zero, List.set_cons_succ]
                        refine wpAny_done (by kernel_rfl) ?_ _
                        exact HSH _ _ _ _ _ _ _ _ HX
                      exact AllReady.nil
                    exact AllReady.nil
                  refine AllReady.cons rfl (fun KK hKK => ?_) ?_
                  · skip
                    go_simp
                    refine hKK _ _ ?_; clear hKK KK; try simp only [Act.put, List.setIfInBounds_toArray, List.set_cons_zero, List.set_cons_succ]
                    change wpAny _ _ _ _ _ _ _ (y1.alloc (.cells tlZ 27))
                    have hal := (Below.refl y1.heap.size y1).alloc (Nat.le_refl _) (.cells tlZ 27)
                    have HBy8 := Lib.hid ((HBy1.out).trans (hal.mono (HBy1.out).size)); have HP8 := Lib.hid (Blk.new y1 27 tlZ); have HQ := Lib.hid ((HBy1.out).size)
                    have HC8 := Lib.hid (HC1.out.below hal)
                    clear hal
                    generalize y1.alloc (.cells tlZ 27) = y8 at *
                    obtain ⟨p, hp⟩ : ∃ p, p = y1.heap.size := ⟨_, rfl⟩
                    rw [← hp] at HP8 HQ ⊢; clear hp
                    refine wpAny_ready (rs := [2]) (by kernel_rfl) (by simp) ?_
                    refine AllReady.cons rfl (fun KK hKK => ?_) ?_
                    · skip
                      refine step_load (by rfl) 37 (.tmp 7) (by rfl) pm (by rfl) 37 (cmC (twM 9 h t (1 + z))) ((HCM6.out).below HBy8.out (HCM6.out).lt) _ Tryd.underlying37 rfl size37 (some 57) rfl ?_
                      refine hKK _ _ ?_; clear hKK KK; simp only [Act.put, List.setIfInBounds_toArray, List.set_cons_zero, List.set_cons_succ]
                      refine wpAny_ready (rs := [3]) (by kernel_rfl) (by simp) ?_
                      refine AllReady.cons rfl (fun KK hKK => ?_) ?_
                      · skip
                        refine step_call2 (by rfl) 22 (.tmp 56) (.tmp 57) _ (by rfl) (tlV A5 c5 u) (cmV (twM 9 h t (1 + z))) (by rfl) (by rfl) (fun _ _ => rfl) _ (do_as (w := y8) HC8.out (Hsm.out) (Hhs.out) ((G6.out.tb).below HBy8.out) (Ht2.out) (He2.out) (Hc2.out)) (some 58) rfl ?_
                        rintro e y9 ⟨A6, c6, B6, e6, rfl, ho6, he6, hb⟩
                        refine ⟨_, rfl, ?_⟩
                        have HBy9 := Lib.hid ((HBy8.out).trans (hb.mono (HBy8.out).size)); have HO9 := Lib.hid (Own.base ho6 (HBy8.out).size); have HE9 := Lib.hid (OwnE.base he6 (HBy8.out).size)
                        have HP9 := Lib.hid (HP8.out.below hb HP8.out.lt)
                        clear hb ho6 he6; refine hKK _ _ ?_; clear hKK KK; simp only [Act.put, List.setIfInBounds_toArray, List.set_cons_zero, List.set_cons_succ]
                        refine take_at (i := 4) (v := ?_) rfl (by kernel_rfl) (by kernel_rfl) (by kernel_rfl) (fun _ _ _ h => h) (some 54) rfl (Or.inl ⟨by rfl, ?_⟩) ?_
                        rotate_left 1
                        · intro w; go_simp; try with_reducible rfl
                        simp only [Act.put, List.setIfInBounds_toArray, List.set_cons_zero, List.set_cons_succ]
                        refine take_at (i := 5) (v := ?_) rfl (by kernel_rfl) (by kernel_rfl) (by kernel_rfl) (fun _ _ _ h => h) (some 59) rfl (Or.inl ⟨by rfl, ?_⟩) ?_
                        rotate_left 1
                        · intro w; go_simp; try with_reducible rfl
                        simp only [Act.put, List.setIfInBounds_toArray, List.set_cons_zero, List.set_cons_succ]
                        refine take_at (i := 6) (v := ?_) rfl (by kernel_rfl) (by kernel_rfl) (by kernel_rfl) (fun _ _ _ h => h) (some 60) rfl (Or.inl ⟨by rfl, ?_⟩) ?_
                        rotate_left 1
                        · intro w; go_simp; try with_reducible rfl
                        simp only [Act.put, List.setIfInBounds_toArray, List.set_cons_zero, List.set_cons_succ]
                        refine take_at (i := 7) (v := ?_) rfl (by kernel_rfl) (by kernel_rfl) (by kernel_rfl) (fun _ _ _ h => h) (some 61) rfl (Or.inl ⟨by rfl, ?_⟩) ?_
                        rotate_left 1
                        · intro w; go_simp; try with_reducible rfl
                        simp only [Act.put, List.setIfInBounds_toArray, List.set_cons_zero, List.set_cons_succ]
                        refine wpAny_ready (rs := [9]) (by kernel_rfl) (by simp) ?_
                        refine AllReady.cons rfl (fun KK hKK => ?_) AllReady.nil
                        refine step_store (by rfl) 27 (.tmp 11) (.tmp 59) (by rfl) _ (tlC A6 c6 (u)) (by rfl) (by rfl) 27 tlZ HP9.out size27 rfl (tlC_one ..) none rfl ?_
                        intro v hbk hon
                        have HX := DoBox.made (A5 := A5) (c5 := c5) HBy9.out HQ.out HP9.out HO9.out HE9.out hbk hon
                        clear hbk hon; refine hKK _ _ ?_; clear hKK KK; simp only [Act.put]
                        refine take_at (i := 10) (v := ?_) rfl (by kernel_rfl) (by kernel_rfl) (by kernel_rfl) (fun _ _ _ h => h) (some 12) rfl (Or.inl ⟨by rfl, ?_⟩) ?_
                        rotate_left 1
                        · intro w; go_simp; try with_reducible rfl
                        simp only [Act.put, List.setIfInBounds_toArray, List.set_cons_zero, List.set_cons_succ]
                        refine take_at (i := 11) (v := ?_) rfl (by kernel_rfl) (by kernel_rfl) (by kernel_rfl) (fun _ _ _ h => h) (some 13) rfl (Or.inl ⟨by rfl, ?_⟩) ?_
                        rotate_left 1
                        · intro w; go_simp; try with_reducible rfl
                        simp only [Act.put, List.setIfInBounds_toArray, List.set_cons_zero, List.set_cons_succ]
                        refine wpAny_done (by kernel_rfl) ?_ _
                        exact HSH _ _ _ _ _ _ _ _ HX
                      exact AllReady.nil
                    exact AllReady.nil
                  exact AllReady.nil
                refine AllReady.cons rfl (fun KK hKK => ?_) ?_
                · skip
                  refine step_load (by rfl) 37 (.tmp 7) (by rfl) pm (by rfl) 37 (cmC (twM 9 h t (1 + z))) ((HCM6.out).below HBy0.out (HCM6.out).lt) _ Tryd.underlying37 rfl size37 (some 57) rfl ?_
                  refine hKK _ _ ?_; clear hKK KK; simp only [Act.put, List.setIfInBounds_toArray, List.set_cons_zero, List.set_cons_succ]
                  refine wpAny_ready (rs := [1, 8]) (by kernel_rfl) (by simp) ?_
                  refine AllReady.cons rfl (fun KK hKK => ?_) ?_
                  · skip
                    refine step_call1 (by rfl) 13 (.tmp 55) _ (by rfl) (tlV A1 c1 u) (by rfl) (fun _ _ => rfl) _ (copy_any A1 c1 u y0 ((HOp1.out.rgs).below HBy0.out) (Nat.le_trans (Hsm.out).1 (by decide))) (some 56) rfl ?_
                    rintro e y11 ⟨A5, c5, rfl, ho5, hb⟩
                    refine ⟨_, rfl, ?_⟩
                    have HBy11 := Lib.hid ((HBy0.out).trans (hb.mono (HBy0.out).size)); have HC11 := Lib.hid ho5.rgs
                    clear hb ho5; refine hKK _ _ ?_; clear hKK KK; simp only [Act.put, List.setIfInBounds_toArray, List.set_cons_zero, List.set_cons_succ]
                    refine wpAny_ready (rs := [3, 8]) (by kernel_rfl) (by simp) ?_
                    refine AllReady.cons rfl (fun KK hKK => ?_) ?_
                    · skip
                      refine step_call2 (by rfl) 22 (.tmp 56) (.tmp 57) _ (by rfl) (tlV A5 c5 u) (cmV (twM 9 h t (1 + z))) (by rfl) (by rfl) (fun _ _ => rfl) _ (do_as (w := y11) HC11.out (Hsm.out) (Hhs.out) ((G6.out.tb).below HBy11.out) (Ht2.out) (He2.out) (Hc2.out)) (some 58) rfl ?_
                      rintro e y12 ⟨A6, c6, B6, e6, rfl, ho6, he6, hb⟩
                      refine ⟨_, rfl, ?_⟩
                      have HBy12 := Lib.hid ((HBy11.out).trans (hb.mono (HBy11.out).size)); have HO12 := Lib.hid (Own.base ho6 (HBy11.out).size); have HE12 := Lib.hid (OwnE.base he6 (HBy11.out).size)
                      clear hb ho6 he6; refine hKK _ _ ?_; clear hKK KK; simp only [Act.put, List.setIfInBounds_toArray, List.set_cons_zero, List.set_cons_succ]
                      refine take_at (i := 4) (v := ?_) rfl (by kernel_rfl) (by kernel_rfl) (by kernel_rfl) (fun _ _ _ h => h) (some 54) rfl (Or.inl ⟨by rfl, ?_⟩) ?_
                      rotate_left 1
                      · intro w; go_simp; try with_reducible rfl
                      simp only [Act.put, List.setIfInBounds_toArray, List.set_cons_zero, List.set_cons_succ]
                      refine take_at (i := 5) (v := ?_) rfl (by kernel_rfl) (by kernel_rfl) (by kernel_rfl) (fun _ _ _ h => h) (some 59) rfl (Or.inl ⟨by rfl, ?_⟩) ?_
                      rotate_left 1
                      · intro w; go_simp; try with_reducible rfl
                      simp only [Act.put, List.setIfInBounds_toArray, List.set_cons_zero, List.set_cons_succ]
                      refine take_at (i := 6) (v := ?_) rfl (by kernel_rfl) (by kernel_rfl) (by kernel_rfl) (fun _ _ _ h => h) (some 60) rfl (Or.inl ⟨by rfl, ?_⟩) ?_
                      rotate_left 1
                      · intro w; go_simp; try with_reducible rfl
                      simp only [Act.put, List.setIfInBounds_toArray, List.set_cons_zero, List.set_cons_succ]
                      refine take_at (i := 7) (v := ?_) rfl (by kernel_rfl) (by kernel_rfl) (by kernel_rfl) (fun _ _ _ h => h) (some 61) rfl (Or.inl ⟨by rfl, ?_⟩) ?_
                      rotate_left 1
                      · intro w; go_simp; try with_reducible rfl
                      simp only [Act.put, List.setIfInBounds_toArray, List.set_cons_zero, List.set_cons_succ]
                      refine wpAny_ready (rs := [8]) (by kernel_rfl) (by simp) ?_
                      refine AllReady.cons rfl (fun KK hKK => ?_) ?_
                      · skip
                        go_simp
                        refine hKK _ _ ?_; clear hKK KK; try simp only [Act.put, List.setIfInBounds_toArray, List.set_cons_zero, List.set_cons_succ]
                        change wpAny _ _ _ _ _ _ _ (y12.alloc (.cells tlZ 27))
                        have hal := (Below.refl y12.heap.size y12).alloc (Nat.le_refl _) (.cells tlZ 27)
                        have HBy13 := Lib.hid ((HBy12.out).trans (hal.mono (HBy12.out).size)); have HP13 := Lib.hid (Blk.new y12 27 tlZ); have HQ := Lib.hid ((HBy12.out).size)
                        have HO13 := Lib.hid (HO12.out.below hal); have HE13 := Lib.hid (HE12.out.below hal)
                        clear hal
                        generalize y12.alloc (.cells tlZ 27) = y13 at *
                        obtain ⟨p, hp⟩ : ∃ p, p = y12.heap.size := ⟨_, rfl⟩
                        rw [← hp] at HP13 HQ ⊢; clear hp
                        refine wpAny_ready (rs := [9]) (by kernel_rfl) (by simp) ?_
                        refine AllReady.cons rfl (fun KK hKK => ?_) AllReady.nil
                        refine step_store (by rfl) 27 (.tmp 11) (.tmp 59) (by rfl) _ (tlC A6 c6 (u)) (by rfl) (by rfl) 27 tlZ HP13.out size27 rfl (tlC_one ..) none rfl ?_
                        intro v hbk hon
                        have HX := DoBox.made (A5 := A5) (c5 := c5) HBy13.out HQ.out HP13.out HO13.out HE13.out hbk hon
                        clear hbk hon; refine hKK _ _ ?_; clear hKK KK; simp only [Act.put]
                        refine take_at (i := 10) (v := ?_) rfl (by kernel_rfl) (by kernel_rfl) (by kernel_rfl) (fun _ _ _ h => h) (some 12) rfl (Or.inl ⟨by rfl, ?_⟩) ?_
                        rotate_left 1
                        · intro w; go_simp; try with_reducible rfl
                        simp only [Act.put, List.setIfInBounds_toArray, List.set_cons_zero, List.set_cons_succ]
                        refine take_at (i := 11) (v := ?_) rfl (by kernel_rfl) (by kernel_rfl) (by kernel_rfl) (fun _ _ _ h => h) (some 13) rfl (Or.inl ⟨by rfl, ?_⟩) ?_
                        rotate_left 1
                        · intro w; go_simp; try with_reducible rfl
                        simp only [Act.put, List.setIfInBounds_toArray, List.set_cons_zero, List.set_cons_succ]
                        refine wpAny_done (by kernel_rfl) ?_ _
                        exact HSH _ _ _ _ _ _ _ _ HX
                      exact AllReady.nil
                    refine AllReady.cons rfl (fun KK hKK => ?_) ?_
                    · skip
                      go_simp
                      refine hKK _ _ ?_; clear hKK KK; try simp only [Act.put, List.setIfInBounds_toArray, List.set_cons_zero, List.set_cons_succ]
                      change wpAny _ _ _ _ _ _ _ (y11.alloc (.cells tlZ 27))
                      have hal := (Below.refl y11.heap.size y11).alloc (Nat.le_refl _) (.cells tlZ 27)
                      have HBy15 := Lib.hid ((HBy11.out).trans (hal.mono (HBy11.out).size)); have HP15 := Lib.hid (Blk.new y11 27 tlZ); have HQ := Lib.hid ((HBy11.out).size)
                      have HC15 := Lib.hid (HC11.out.below hal)
                      clear hal
                      generalize y11.alloc (.cells tlZ 27) = y15 at *
                      obtain ⟨p, hp⟩ : ∃ p, p = y11.heap.size := ⟨_, rfl⟩
                      rw [← hp] at HP15 HQ ⊢; clear hp
                      refine wpAny_ready (rs := [3]) (by kernel_rfl) (by simp) ?_
                      refine AllReady.cons rfl (fun KK hKK => ?_) ?_
                      · skip
                        refine step_call2 (by rfl) 22 (.tmp 56) (.tmp 57) _ (by rfl) (tlV A5 c5 u) (cmV (twM 9 h t (1 + z))) (by rfl) (by rfl) (fun _ _ => rfl) _ (do_as (w := y15) HC15.out (Hsm.out) (Hhs.out) ((G6.out.tb).below HBy15.out) (Ht2.out) (He2.out) (Hc2.out)) (some 58) rfl ?_
                        rintro e y16 ⟨A6, c6, B6, e6, rfl, ho6, he6, hb⟩
                        refine ⟨_, rfl, ?_⟩
                        have HBy16 := Lib.hid ((HBy15.out).trans (hb.mono (HBy15.out).size)); have HO16 := Lib.hid (Own.base ho6 (HBy15.out).size); have HE16 := Lib.hid (OwnE.base he6 (HBy15.out).size)
                        have HP16 := Lib.hid (HP15.out.below hb HP15.out.lt)
                        clear hb ho6 he6; refine hKK _ _ ?_; clear hKK KK; simp only [Act.put, List.setIfInBounds_toArray, List.set_cons_zero, List.set_cons_succ]
                        refine take_at (i := 4) (v := ?_) rfl (by kernel_rfl) (by kernel_rfl) (by kernel_rfl) (fun _ _ _ h => h) (some 54) rfl (Or.inl ⟨by rfl, ?_⟩) ?_
                        rotate_left 1
                        · intro w; go_simp; try with_reducible rfl
                        simp only [Act.put, List.setIfInBounds_toArray, List.set_cons_zero, List.set_cons_succ]
                        refine take_at (i := 5) (v := ?_) rfl (by kernel_rfl) (by kernel_rfl) (by kernel_rfl) (fun _ _ _ h => h) (some 59) rfl (Or.inl ⟨by rfl, ?_⟩) ?_
                        rotate_left 1
                        · intro w; go_simp; try with_reducible rfl
                        simp only [Act.put, List.setIfInBounds_toArray, List.set_cons_zero, List.set_cons_succ]
                        refine take_at (i := 6) (v := ?_) rfl (by kernel_rfl) (by kernel_rfl) (by kernel_rfl) (fun _ _ _ h => h) (some 60) rfl (Or.inl ⟨by rfl, ?_⟩) ?_
                        rotate_left 1
                        · intro w; go_simp; try with_reducible rfl
                        simp only [Act.put, List.setIfInBounds_toArray, List.set_cons_zero, List.set_cons_succ]
                        refine take_at (i := 7) (v := ?_) rfl (by kernel_rfl) (by kernel_rfl) (by kernel_rfl) (fun _ _ _ h => h) (some 61) rfl (Or.inl ⟨by rfl, ?_⟩) ?_
                        rotate_left 1
                        · intro w; go_simp; try with_reducible rfl
                        simp only [Act.put, List.setIfInBounds_toArray, List.set_cons_zero, List.set_cons_succ]
                        refine wpAny_ready (rs := [9]) (by kernel_rfl) (by simp) ?_
                        refine AllReady.cons rfl (fun KK hKK => ?_) AllReady.nil
                        refine step_store (by rfl) 27 (.tmp 11) (.tmp 59) (by rfl) _ (tlC A6 c6 (u)) (by rfl) (by rfl) 27 tlZ HP16.out size27 rfl (tlC_one ..) none rfl ?_
                        intro v hbk hon
                        have HX := DoBox.made (A5 := A5) (c5 := c5) HBy16.out HQ.out HP16.out HO16.out HE16.out hbk hon
                        clear hbk hon; refine hKK _ _ ?_; clear hKK KK; simp only [Act.put]
                        refine take_at (i := 10) (v := ?_) rfl (by kernel_rfl) (by kernel_rfl) (by kernel_rfl) (fun _ _ _ h => h) (some 12) rfl (Or.inl ⟨by rfl, ?_⟩) ?_
                        rotate_left 1
                        · intro w; go_simp; try with_reducible rfl
                        simp only [Act.put, List.setIfInBounds_toArray, List.set_cons_zero, List.set_cons_succ]
                        refine take_at (i := 11) (v := ?_) rfl (by kernel_rfl) (by kernel_rfl) (by kernel_rfl) (fun _ _ _ h => h) (some 13) rfl (Or.inl ⟨by rfl, ?_⟩) ?_
                        rotate_left 1
                        · intro w; go_simp; try with_reducible rfl
                        simp only [Act.put, List.setIfInBounds_toArray, List.set_cons_zero, List.set_cons_succ]
                        refine wpAny_done (by kernel_rfl) ?_ _
                        exact HSH _ _ _ _ _ _ _ _ HX
                      exact AllReady.nil
                    exact AllReady.nil
                  refine AllReady.cons rfl (fun KK hKK => ?_) ?_
                  · skip
                    go_simp
                    refine hKK _ _ ?_; clear hKK KK; try simp only [Act.put, List.setIfInBounds_toArray, List.set_cons_zero, List.set_cons_succ]
                    change wpAny _ _ _ _ _ _ _ (y0.alloc (.cells tlZ 27))
                    have hal := (Below.refl y0.heap.size y0).alloc (Nat.le_refl _) (.cells tlZ 27)
                    have HBy18 := Lib.hid ((HBy0.out).trans (hal.mono (HBy0.out).size)); have HP18 := Lib.hid (Blk.new y0 27 tlZ); have HQ := Lib.hid ((HBy0.out).size)
                    clear hal
                    generalize y0.alloc (.cells tlZ 27) = y18 at *
                    obtain ⟨p, hp⟩ : ∃ p, p = y0.heap.size := ⟨_, rfl⟩
                    rw [← hp] at HP18 HQ ⊢; clear hp
                    refine wpAny_ready (rs := [1]) (by kernel_rfl) (by simp) ?_
                    refine AllReady.cons rfl (fun KK hKK => ?_) ?_
                    · skip
                      refine step_call1 (by rfl) 13 (.tmp 55) _ (by rfl) (tlV A1 c1 u) (by rfl) (fun _ _ => rfl) _ (copy_any A1 c1 u y18 ((HOp1.out.rgs).below HBy18.out) (Nat.le_trans (Hsm.out).1 (by decide))) (some 56) rfl ?_
                      rintro e y19 ⟨A5, c5, rfl, ho5, hb⟩
                      refine ⟨_, rfl, ?_⟩
                      have HBy19 := Lib.hid ((HBy18.out).trans (hb.mono (HBy18.out).size)); have HC19 := Lib.hid ho5.rgs
                      have HP19 := Lib.hid (HP18.out.below hb HP18.out.lt)
                      clear hb ho5; refine hKK _ _ ?_; clear hKK KK; simp only [Act.put, List.setIfInBounds_toArray, List.set_cons_zero, List.set_cons_succ]
                      refine wpAny_ready (rs := [3]) (by kernel_rfl) (by simp) ?_
                      refine AllReady.cons rfl (fun KK hKK => ?_) ?_
                      · skip
                        refine step_call2 (by rfl) 22 (.tmp 56) (.tmp 57) _ (by rfl) (tlV A5 c5 u) (cmV (twM 9 h t (1 + z))) (by rfl) (by rfl) (fun _ _ => rfl) _ (do_as (w := y19) HC19.out (Hsm.out) (Hhs.out) ((G6.out.tb).below HBy19.out) (Ht2.out) (He2.out) (Hc2.out)) (some 58) rfl ?_
                        rintro e y20 ⟨A6, c6, B6, e6, rfl, ho6, he6, hb⟩
                        refine ⟨_, rfl, ?_⟩
                        have HBy20 := Lib.hid ((HBy19.out).trans (hb.mono (HBy19.out).size)); have HO20 := Lib.hid (Own.base ho6 (HBy19.out).size); have HE20 := Lib.hid (OwnE.base he6 (HBy19.out).size)
                        have HP20 := Lib.hid (HP19.out.below hb HP19.out.lt)
                        clear hb ho6 he6; refine hKK _ _ ?_; clear hKK KK; simp only [Act.put, List.setIfInBounds_toArray, List.set_cons_zero, List.set_cons_succ]
                        refine take_at (i := 4) (v := ?_) rfl (by kernel_rfl) (by kernel_rfl) (by kernel_rfl) (fun _ _ _ h => h) (some 54) rfl (Or.inl ⟨by rfl, ?_⟩) ?_
                        rotate_left 1
                        · intro w; go_simp; try with_reducible rfl
                        simp only [Act.put, List.setIfInBounds_toArray, List.set_cons_zero, List.set_cons_succ]
                        refine take_at (i := 5) (v := ?_) rfl (by kernel_rfl) (by kernel_rfl) (by kernel_rfl) (fun _ _ _ h => h) (some 59) rfl (Or.inl ⟨by rfl, ?_⟩) ?_
                        rotate_left 1
                        · intro w; go_simp; try with_reducible rfl
                        simp only [Act.put, List.setIfInBounds_toArray, List.set_cons_zero, List.set_cons_succ]
                        refine take_at (i := 6) (v := ?_) rfl (by kernel_rfl) (by kernel_rfl) (by kernel_rfl) (fun _ _ _ h => h) (some 60) rfl (Or.inl ⟨by rfl, ?_⟩) ?_
                        rotate_left 1
                        · intro w; go_simp; try with_reducible rfl
                        simp only [Act.put, List.setIfInBounds_toArray, List.set_cons_zero, List.set_cons_succ]
                        refine take_at (i := 7) (v := ?_) rfl (by kernel_rfl) (by kernel_rfl) (by kernel_rfl) (fun _ _ _ h => h) (some 61) rfl (Or.inl ⟨by rfl, ?_⟩) ?_
                        rotate_left 1
                        · intro w; go_simp; try with_reducible rfl
                        simp only [Act.put, List.setIfInBounds_toArray, List.set_cons_zero, List.set_cons_succ]
                        refine wpAny_ready (rs := [9]) (by kernel_rfl) (by simp) ?_
                        refine AllReady.cons rfl (fun KK hKK => ?_) AllReady.nil
                        refine step_store (by rfl) 27 (.tmp 11) (.tmp 59) (by rfl) _ (tlC A6 c6 (u)) (by rfl) (by rfl) 27 tlZ HP20.out size27 rfl (tlC_one ..) none rfl ?_
                        intro v hbk hon
                        have HX := DoBox.made (A5 := A5) (c5 := c5) HBy20.out HQ.out HP20.out HO20.out HE20.out hbk hon
                        clear hbk hon; refine hKK _ _ ?_; clear hKK KK; simp only [Act.put]
                        refine take_at (i := 10) (v := ?_) rfl (by kernel_rfl) (by kernel_rfl) (by kernel_rfl) (fun _ _ _ h => h) (some 12) rfl (Or.inl ⟨by rfl, ?_⟩) ?_
                        rotate_left 1
                        · intro w; go_simp; try with_reducible rfl
                        simp only [Act.put, List.setIfInBounds_toArray, List.set_cons_zero, List.set_cons_succ]
                        refine take_at (i := 11) (v := ?_) rfl (by kernel_rfl) (by kernel_rfl) (by kernel_rfl) (fun _ _ _ h => h) (some 13) rfl (Or.inl ⟨by rfl, ?_⟩) ?_
                        rotate_left 1
                        · intro w; go_simp; try with_reducible rfl
                        simp only [Act.put, List.setIfInBounds_toArray, List.set_cons_zero, List.set_cons_succ]
                        refine wpAny_done (by kernel_rfl) ?_ _
                        exact HSH _ _ _ _ _ _ _ _ HX
                      exact AllReady.nil
                    exact AllReady.nil
                  exact AllReady.nil
                refine AllReady.cons rfl (fun KK hKK => ?_) ?_
                · skip
                  go_simp
                  refine hKK _ _ ?_; clear hKK KK; try simp only [Act.put, List.setIfInBounds_toArray, List.set_cons_zero, List.set_cons_succ]
                  change wpAny _ _ _ _ _ _ _ (y0.alloc (.cells tlZ 27))
                  have hal := (Below.refl y0.heap.size y0).alloc (Nat.le_refl _) (.cells tlZ 27)
                  have HBy22 := Lib.hid ((HBy0.out).trans (hal.mono (HBy0.out).size)); have HP22 := Lib.hid (Blk.new y0 27 tlZ); have HQ := Lib.hid ((HBy0.out).size)
                  clear hal
                  generalize y0.alloc (.cells tlZ 27) = y22 at *
                  obtain ⟨p, hp⟩ : ∃ p, p = y0.heap.size := ⟨_, rfl⟩
                  rw [← hp] at HP22 HQ ⊢; clear hp
                  refine wpAny_ready (rs := [1, 2]) (by kernel_rfl) (by simp) ?_
                  refine AllReady.cons rfl (fun KK hKK => ?_) ?_
                  · skip
                    refine step_call1 (by rfl) 13 (.tmp 55) _ (by rfl) (tlV A1 c1 u) (by rfl) (fun _ _ => rfl) _ (copy_any A1 c1 u y22 ((HOp1.out.rgs).below HBy22.out) (Nat.le_trans (Hsm.out).1 (by decide))) (some 56) rfl ?_
                    rintro e y23 ⟨A5, c5, rfl, ho5, hb⟩
                    refine ⟨_, rfl, ?_⟩
                    have HBy23 := Lib.hid ((HBy22.out).trans (hb.mono (HBy22.out).size)); have HC23 := Lib.hid ho5.rgs
                    have HP23 := Lib.hid (HP22.out.below hb HP22.out.lt)
                    clear hb ho5; refine hKK _ _ ?_; clear hKK KK; simp only [Act.put, List.setIfInBounds_toArray, List.set_cons_zero, List.set_cons_succ]
                    refine wpAny_ready (rs := [2]) (by kernel_rfl) (by simp) ?_
                    refine AllReady.cons rfl (fun KK hKK => ?_) ?_
                    · skip
                      refine step_load (by rfl) 37 (.tmp 7) (by rfl) pm (by rfl) 37 (cmC (twM 9 h t (1 + z))) ((HCM6.out).below HBy23.out (HCM6.out).lt) _ Tryd.underlying37 rfl size37 (some 57) rfl ?_
                      refine hKK _ _ ?_; clear hKK KK; simp only [Act.put, List.setIfInBounds_toArray, List.set_cons_zero, List.set_cons_succ]
                      refine wpAny_ready (rs := [3]) (by kernel_rfl) (by simp) ?_
                      refine AllReady.cons rfl (fun KK hKK => ?_) ?_
                      · skip
                        refine step_call2 (by rfl) 22 (.tmp 56) (.tmp 57) _ (by rfl) (tlV A5 c5 u) (cmV (twM 9 h t (1 + z))) (by rfl) (by rfl) (fun _ _ => rfl) _ (do_as (w := y23) HC23.out (Hsm.out) (Hhs.out) ((G6.out.tb).below HBy23.out) (Ht2.out) (He2.out) (Hc2.out)) (some 58) rfl ?_
                        rintro e y24 ⟨A6, c6, B6, e6, rfl, ho6, he6, hb⟩
                        refine ⟨_, rfl, ?_⟩
                        have HBy24 := Lib.hid ((HBy23.out).trans (hb.mono (HBy23.out).size)); have HO24 := Lib.hid (Own.base ho6 (HBy23.out).size); have HE24 := Lib.hid (OwnE.base he6 (HBy23.out).size)
                        have HP24 := Lib.hid (HP23.out.below hb HP23.out.lt)
                        clear hb ho6 he6; refine hKK _ _ ?_; clear hKK KK; simp only [Act.put, List.setIfInBounds_toArray, List.set_cons_zero, List.set_cons_succ]
                        refine take_at (i := 4) (v := ?_) rfl (by kernel_rfl) (by kernel_rfl) (by kernel_rfl) (fun _ _ _ h => h) (some 54) rfl (Or.inl ⟨by rfl, ?_⟩) ?_
                        rotate_left 1
                        · intro w; go_simp; try with_reducible rfl
                        simp only [Act.put, List.setIfInBounds_toArray, List.set_cons_zero, List.set_cons_succ]
                        refine take_at (i := 5) (v := ?_) rfl (by kernel_rfl) (by kernel_rfl) (by kernel_rfl) (fun _ _ _ h => h) (some 59) rfl (Or.inl ⟨by rfl, ?_⟩) ?_
                        rotate_left 1
                        · intro w; go_simp; try with_reducible rfl
                        simp only [Act.put, List.setIfInBounds_toArray, List.set_cons_zero, List.set_cons_succ]
                        refine take_at (i := 6) (v := ?_) rfl (by kernel_rfl) (by kernel_rfl) (by kernel_rfl) (fun _ _ _ h => h) (some 60) rfl (Or.inl ⟨by rfl, ?_⟩) ?_
                        rotate_left 1
                        · intro w; go_simp; try with_reducible rfl
                        simp only [Act.put, List.setIfInBounds_toArray, List.set_cons_zero, List.set_cons_succ]
                        refine take_at (i := 7) (v := ?_) rfl (by kernel_rfl) (by kernel_rfl) (by kernel_rfl) (fun _ _ _ h => h) (some 61) rfl (Or.inl ⟨by rfl, ?_⟩) ?_
                        rotate_left 1
                        · intro w; go_simp; try with_reducible rfl
                        simp only [Act.put, List.setIfInBounds_toArray, List.set_cons_zero, List.set_cons_succ]
                        refine wpAny_ready (rs := [9]) (by kernel_rfl) (by simp) ?_
                        refine AllReady.cons rfl (fun KK hKK => ?_) AllReady.nil
                        refine step_store (by rfl) 27 (.tmp 11) (.tmp 59) (by rfl) _ (tlC A6 c6 (u)) (by rfl) (by rfl) 27 tlZ HP24.out size27 rfl (tlC_one ..) none rfl ?_
                        intro v hbk hon
                        have HX := DoBox.made (A5 := A5) (c5 := c5) HBy24.out HQ.out HP24.out HO24.out HE24.out hbk hon
                        clear hbk hon; refine hKK _ _ ?_; clear hKK KK; simp only [Act.put]
                        refine take_at (i := 10) (v := ?_) rfl (by kernel_rfl) (by kernel_rfl) (by kernel_rfl) (fun _ _ _ h => h) (some 12) rfl (Or.inl ⟨by rfl, ?_⟩) ?_
                        rotate_left 1
                        · intro w; go_simp; try with_reducible rfl
                        simp only [Act.put, List.setIfInBounds_toArray, List.set_cons_zero, List.set_cons_succ]
                        refine take_at (i := 11) (v := ?_) rfl (by kernel_rfl) (by kernel_rfl) (by kernel_rfl) (fun _ _ _ h => h) (some 13) rfl (Or.inl ⟨by rfl, ?_⟩) ?_
                        rotate_left 1
                        · intro w; go_simp; try with_reducible rfl
                        simp only [Act.put, List.setIfInBounds_toArray, List.set_cons_zero, List.set_cons_succ]
                        refine wpAny_done (by kernel_rfl) ?_ _
                        exact HSH _ _ _ _ _ _ _ _ HX
                      exact AllReady.nil
                    exact AllReady.nil
                  refine AllReady.cons rfl (fun KK hKK => ?_) ?_
                  · skip
                    refine step_load (by rfl) 37 (.tmp 7) (by rfl) pm (by rfl) 37 (cmC (twM 9 h t (1 + z))) ((HCM6.out).below HBy22.out (HCM6.out).lt) _ Tryd.underlying37 rfl size37 (some 57) rfl ?_
                    refine hKK _ _ ?_; clear hKK KK; simp only [Act.put, List.setIfInBounds_toArray, List.set_cons_zero, List.set_cons_succ]
                    refine wpAny_ready (rs := [1]) (by kernel_rfl) (by simp) ?_
                    refine AllReady.cons rfl (fun KK hKK => ?_) ?_
                    · skip
                      refine step_call1 (by rfl) 13 (.tmp 55) _ (by rfl) (tlV A1 c1 u) (by rfl) (fun _ _ => rfl) _ (copy_any A1 c1 u y22 ((HOp1.out.rgs).below HBy22.out) (Nat.le_trans (Hsm.out).1 (by decide))) (some 56) rfl ?_
                      rintro e y26 ⟨A5, c5, rfl, ho5, hb⟩
                      refine ⟨_, rfl, ?_⟩
                      have HBy26 := Lib.hid ((HBy22.out).trans (hb.mono (HBy22.out).size)); have HC26 := Lib.hid ho5.rgs
                      have HP26 := Lib.hid (HP22.out.below hb HP22.out.lt)
                      clear hb ho5; refine hKK _ _ ?_; clear hKK KK; simp only [Act.put, List.setIfInBounds_toArray, List.set_cons_zero, List.set_cons_succ]
                      refine wpAny_ready (rs := [3]) (by kernel_rfl) (by simp) ?_
                      refine AllReady.cons rfl (fun KK hKK => ?_) ?_
                      · skip
                        refine step_call2 (by rfl) 22 (.tmp 56) (.tmp 57) _ (by rfl) (tlV A5 c5 u) (cmV (twM 9 h t (1 + z))) (by rfl) (by rfl) (fun _ _ => rfl) _ (do_as (w := y26) HC26.out (Hsm.out) (Hhs.out) ((G6.out.tb).below HBy26.out) (Ht2.out) (He2.out) (Hc2.out)) (some 58) rfl ?_
                        rintro e y27 ⟨A6, c6, B6, e6, rfl, ho6, he6, hb⟩
                        refine ⟨_, rfl, ?_⟩
                        have HBy27 := Lib.hid ((HBy26.out).trans (hb.mono (HBy26.out).size)); have HO27 := Lib.hid (Own.base ho6 (HBy26.out).size); have HE27 := Lib.hid (OwnE.base he6 (HBy26.out).size)
                        have HP27 := Lib.hid (HP26.out.below hb HP26.out.lt)
                        clear hb ho6 he6; refine hKK _ _ ?_; clear hKK KK; simp only [Act.put, List.setIfInBounds_toArray, List.set_cons_zero, List.set_cons_succ]
                        refine take_at (i := 4) (v := ?_) rfl (by kernel_rfl) (by kernel_rfl) (by kernel_rfl) (fun _ _ _ h => h) (some 54) rfl (Or.inl ⟨by rfl, ?_⟩) ?_
                        rotate_left 1
                        · intro w; go_simp; try with_reducible rfl
                        simp only [Act.put, List.setIfInBounds_toArray, List.set_cons_zero, List.set_cons_succ]
                        refine take_at (i := 5) (v := ?_) rfl (by kernel_rfl) (by kernel_rfl) (by kernel_rfl) (fun _ _ _ h => h) (some 59) rfl (Or.inl ⟨by rfl, ?_⟩) ?_
                        rotate_left 1
                        · intro w; go_simp; try with_reducible rfl
                        simp only [Act.put, List.setIfInBounds_toArray, List.set_cons_zero, List.set_cons_succ]
                        refine take_at (i := 6) (v := ?_) rfl (by kernel_rfl) (by kernel_rfl) (by kernel_rfl) (fun _ _ _ h => h) (some 60) rfl (Or.inl ⟨by rfl, ?_⟩) ?_
                        rotate_left 1
                        · intro w; go_simp; try with_reducible rfl
                        simp only [Act.put, List.setIfInBounds_toArray, List.set_cons_zero, List.set_cons_succ]
                        refine take_at (i := 7) (v := ?_) rfl (by kernel_rfl) (by kernel_rfl) (by kernel_rfl) (fun _ _ _ h => h) (some 61) rfl (Or.inl ⟨by rfl, ?_⟩) ?_
                        rotate_left 1
                        · intro w; go_simp; try with_reducible rfl
                        simp only [Act.put, List.setIfInBounds_toArray, List.set_cons_zero, List.set_cons_succ]
                        refine wpAny_ready (rs := [9]) (by kernel_rfl) (by simp) ?_
                        refine AllReady.cons rfl (fun KK hKK => ?_) AllReady.nil
                        refine step_store (by rfl) 27 (.tmp 11) (.tmp 59) (by rfl) _ (tlC A6 c6 (u)) (by rfl) (by rfl) 27 tlZ HP27.out size27 rfl (tlC_one ..) none rfl ?_
                        intro v hbk hon
                        have HX := DoBox.made (A5 := A5) (c5 := c5) HBy27.out HQ.out HP27.out HO27.out HE27.out hbk hon
                        clear hbk hon; refine hKK _ _ ?_; clear hKK KK; simp only [Act.put]
                        refine take_at (i := 10) (v := ?_) rfl (by kernel_rfl) (by kernel_rfl) (by kernel_rfl) (fun _ _ _ h => h) (some 12) rfl (Or.inl ⟨by rfl, ?_⟩) ?_
                        rotate_left 1
                        · intro w; go_simp; try with_reducible rfl
                        simp only [Act.put, List.setIfInBounds_toArray, List.set_cons_zero, List.set_cons_succ]
                        refine take_at (i := 11) (v := ?_) rfl (by kernel_rfl) (by kernel_rfl) (by kernel_rfl) (fun _ _ _ h => h) (some 13) rfl (Or.inl ⟨by rfl, ?_⟩) ?_
                        rotate_left 1
                        · intro w; go_simp; try with_reducible rfl
                        simp only [Act.put, List.setIfInBounds_toArray, List.set_cons_zero, List.set_cons_succ]
                        refine wpAny_done (by kernel_rfl) ?_ _
                        exact HSH _ _ _ _ _ _ _ _ HX
                      exact AllReady.nil
                    exact AllReady.nil
                  exact AllReady.nil
                exact AllReady.nil
              refine AllReady.cons rfl (fun KK hKK => ?_) ?_
              · skip
                refine step_load (by rfl) 37 (.tmp 7) (by rfl) pm (by rfl) 37 (cmC (twM 9 h t (1 + z))) ((HCM6.out).below HBy0.out (HCM6.out).lt) _ Tryd.underlying37 rfl size37 (some 57) rfl ?_
                refine hKK _ _ ?_; clear hKK KK; simp only [Act.put, List.setIfInBounds_toArray, List.set_cons_zero, List.set_cons_succ]
                refine wpAny_ready (rs := [0, 8]) (by kernel_rfl) (by simp) ?_
                refine AllReady.cons rfl (fun KK hKK => ?_) ?_
                · skip
                  refine step_load (by rfl) 27 (.tmp 8) (by rfl) p1 (by rfl) 27 (tlC A1 c1 u) ((HBp1.out).below HBy0.out (HBp1.out).lt) _ Tryd.underlying27 rfl size27 (some 55) rfl ?_
                  refine hKK _ _ ?_; clear hKK KK; simp only [Act.put, List.setIfInBounds_toArray, List.set_cons_zero, List.set_cons_succ]
                  refine wpAny_ready (rs := [1, 8]) (by kernel_rfl) (by simp) ?_
                  refine AllReady.cons rfl (fun KK hKK => ?_) ?_
                  · skip
                    refine step_call1 (by rfl) 13 (.tmp 55) _ (by rfl) (tlV A1 c1 u) (by rfl) (fun _ _ => rfl) _ (copy_any A1 c1 u y0 ((HOp1.out.rgs).below HBy0.out) (Nat.le_trans (Hsm.out).1 (by decide))) (some 56) rfl ?_
                    rintro e y29 ⟨A5, c5, rfl, ho5, hb⟩
                    refine ⟨_, rfl, ?_⟩
                    have HBy29 := Lib.hid ((HBy0.out).trans (hb.mono (HBy0.out).size)); have HC29 := Lib.hid ho5.rgs
                    clear hb ho5; refine hKK _ _ ?_; clear hKK KK; simp only [Act.put, List.setIfInBounds_toArray, List.set_cons_zero, List.set_cons_succ]
                    refine wpAny_ready (rs := [3, 8]) (by kernel_rfl) (by simp) ?_
                    refine AllReady.cons rfl (fun KK hKK => ?_) ?_
                    · skip
                      refine step_call2 (by rfl) 22 (.tmp 56) (.tmp 57) _ (by rfl) (tlV A5 c5 u) (cmV (twM 9 h t (1 + z))) (by rfl) (by rfl) (fun _ _ => rfl) _ (do_as (w := y29) HC29.out (Hsm.out) (Hhs.out) ((G6.out.tb).below HBy29.out) (Ht2.out) (He2.out) (Hc2.out)) (some 58) rfl ?_
                      rintro e y30 ⟨A6, c6, B6, e6, rfl, ho6, he6, hb⟩
                      refine ⟨_, rfl, ?_⟩
                      have HBy30 := Lib.hid ((HBy29.out).trans (hb.mono (HBy29.out).size)); have HO30 := Lib.hid (Own.base ho6 (HBy29.out).size); have HE30 := Lib.hid (OwnE.base he6 (HBy29.out).size)
                      clear hb ho6 he6; refine hKK _ _ ?_; clear hKK KK; simp only [Act.put, List.setIfInBounds_toArray, List.set_cons_zero, List.set_cons_succ]
                      refine take_at (i := 4) (v := ?_) rfl (by kernel_rfl) (by kernel_rfl) (by kernel_rfl) (fun _ _ _ h => h) (some 54) rfl (Or.inl ⟨by rfl, ?_⟩) ?_
                      rotate_left 1
                      · intro w; go_simp; try with_reducible rfl
                      simp only [Act.put, List.setIfInBounds_toArray, List.set_cons_zero, List.set_cons_succ]
                      refine take_at (i := 5) (v := ?_) rfl (by kernel_rfl) (by kernel_rfl) (by kernel_rfl) (fun _ _ _ h => h) (some 59) rfl (Or.inl ⟨by rfl, ?_⟩) ?_
                      rotate_left 1
                      · intro w; go_simp; try with_reducible rfl
                      simp only [Act.put, List.setIfInBounds_toArray, List.set_cons_zero, List.set_cons_succ]
                      refine take_at (i := 6) (v := ?_) rfl (by kernel_rfl) (by kernel_rfl) (by kernel_rfl) (fun _ _ _ h => h) (some 60) rfl (Or.inl ⟨by rfl, ?_⟩) ?_
                      rotate_left 1
                      · intro w; go_simp; try with_reducible rfl
                      simp only [Act.put, List.setIfInBounds_toArray, List.set_cons_zero, List.set_cons_succ]
                      refine take_at (i := 7) (v := ?_) rfl (by kernel_rfl) (by kernel_rfl) (by kernel_rfl) (fun _ _ _ h => h) (some 61) rfl (Or.inl ⟨by rfl, ?_⟩) ?_
                      rotate_left 1
                      · intro w; go_simp; try with_reducible rfl
                      simp only [Act.put, List.setIfInBounds_toArray, List.set_cons_zero, List.set_cons_succ]
                      refine wpAny_ready (rs := [8]) (by kernel_rfl) (by simp) ?_
                      refine AllReady.cons rfl (fun KK hKK => ?_) ?_
                      · skip
                        go_simp
                        refine hKK _ _ ?_; clear hKK KK; try simp only [Act.put, List.setIfInBounds_toArray, List.set_cons_zero, List.set_cons_succ]
                        change wpAny _ _ _ _ _ _ _ (y30.alloc (.cells tlZ 27))
                        have hal := (Below.refl y30.heap.size y30).alloc (Nat.le_refl _) (.cells tlZ 27)
                        have HBy31 := Lib.hid ((HBy30.out).trans (hal.mono (HBy30.out).size)); have HP31 := Lib.hid (Blk.new y30 27 tlZ); have HQ := Lib.hid ((HBy30.out).size)
                        have HO31 := Lib.hid (HO30.out.below hal); have HE31 := Lib.hid (HE30.out.below hal)
                        clear hal
                        generalize y30.alloc (.cells tlZ 27) = y31 at *
                        obtain ⟨p, hp⟩ : ∃ p, p = y30.heap.size := ⟨_, rfl⟩
                        rw [← hp] at HP31 HQ ⊢; clear hp
                        refine wpAny_ready (rs := [9]) (by kernel_rfl) (by simp) ?_
                        refine AllReady.cons rfl (fun KK hKK => ?_) AllReady.nil
                        refine step_store (by rfl) 27 (.tmp 11) (.tmp 59) (by rfl) _ (tlC A6 c6 (u)) (by rfl) (by rfl) 27 tlZ HP31.out size27 rfl (tlC_one ..) none rfl ?_
                        intro v hbk hon
                        have HX := DoBox.made (A5 := A5) (c5 := c5) HBy31.out HQ.out HP31.out HO31.out HE31.out hbk hon
                        clear hbk hon; refine hKK _ _ ?_; clear hKK KK; simp only [Act.put]
                        refine take_at (i := 10) (v := ?_) rfl (by kernel_rfl) (by kernel_rfl) (by kernel_rfl) (fun _ _ _ h => h) (some 12) rfl (Or.inl ⟨by rfl, ?_⟩) ?_
                        rotate_left 1
                        · intro w; go_simp; try with_reducible rfl
                        simp only [Act.put, List.setIfInBounds_toArray, List.set_cons_zero, List.set_cons_succ]
                        refine take_at (i := 11) (v := ?_) rfl (by kernel_rfl) (by kernel_rfl) (by kernel_rfl) (fun _ _ _ h => h) (some 13) rfl (Or.inl ⟨by rfl, ?_⟩) ?_
                        rotate_left 1
                        · intro w; go_simp; try with_reducible rfl
                        simp only [Act.put, List.setIfInBounds_toArray, List.set_cons_zero, List.set_cons_succ]
                        refine wpAny_done (by kernel_rfl) ?_ _
                        exact HSH _ _ _ _ _ _ _ _ HX
                      exact AllReady.nil
                    refine AllReady.cons rfl (fun KK hKK => ?_) ?_
                    · skip
                      go_simp
                      refine hKK _ _ ?_; clear hKK KK; try simp only [Act.put, List.setIfInBounds_toArray, List.set_cons_zero, List.set_cons_succ]
                      change wpAny _ _ _ _ _ _ _ (y29.alloc (.cells tlZ 27))
                      have hal := (Below.refl y29.heap.size y29).alloc (Nat.le_refl _) (.cells tlZ 27)
                      have HBy33 := Lib.hid ((HBy29.out).trans (hal.mono (HBy29.out).size)); have HP33 := Lib.hid (Blk.new y29 27 tlZ); have HQ := Lib.hid ((HBy29.out).size)
                      have HC33 := Lib.hid (HC29.out.below hal)
                      clear hal
                      generalize y29.alloc (.cells tlZ 27) = y33 at *
                      obtain ⟨p, hp⟩ : ∃ p, p = y29.heap.size := ⟨_, rfl⟩
                      rw [← hp] at HP33 HQ ⊢; clear hp
                      refine wpAny_ready (rs := [3]) (by kernel_rfl) (by simp) ?_
                      refine AllReady.cons rfl (fun KK hKK => ?_) ?_
                      · skip
                        refine step_call2 (by rfl) 22 (.tmp 56) (.tmp 57) _ (by rfl) (tlV A5 c5 u) (cmV (twM 9 h t (1 + z))) (by rfl) (by rfl) (fun _ _ => rfl) _ (do_as (w := y33) HC33.out (Hsm.out) (Hhs.out) ((G6.out.tb).below HBy33.out) (Ht2.out) (He2.out) (Hc2.out)) (some 58) rfl ?_
                        rintro e y34 ⟨A6, c6, B6, e6, rfl, ho6, he6, hb⟩
                        refine ⟨_, rfl, ?_⟩
                        have HBy34 := Lib.hid ((HBy33.out).trans (hb.mono (HBy33.out).size)); have HO34 := Lib.hid (Own.base ho6 (HBy33.out).size); have HE34 := Lib.hid (OwnE.base he6 (HBy33.out).size)
                        have HP34 := Lib.hid (HP33.out.below hb HP33.out.lt)
                        clear hb ho6 he6; refine hKK _ _ ?_; clear hKK KK; simp only [Act.put, List.setIfInBounds_toArray, List.set_cons_zero, List.set_cons_succ]
                        refine take_at (i := 4) (v := ?_) rfl (by kernel_rfl) (by kernel_rfl) (by kernel_rfl) (fun _ _ _ h => h) (some 54) rfl (Or.inl ⟨by rfl, ?_⟩) ?_
                        rotate_left 1
                        · intro w; go_simp; try with_reducible rfl
                        simp only [Act.put, List.setIfInBounds_toArray, List.set_cons_zero, List.set_cons_succ]
                        refine take_at (i := 5) (v := ?_) rfl (by kernel_rfl) (by kernel_rfl) (by kernel_rfl) (fun _ _ _ h => h) (some 59) rfl (Or.inl ⟨by rfl, ?_⟩) ?_
                        rotate_left 1
                        · intro w; go_simp; try with_reducible rfl
                        simp only [Act.put, List.setIfInBounds_toArray, List.set_cons_zero, List.set_cons_succ]
                        refine take_at (i := 6) (v := ?_) rfl (by kernel_rfl) (by kernel_rfl) (by kernel_rfl) (fun _ _ _ h => h) (some 60) rfl (Or.inl ⟨by rfl, ?_⟩) ?_
                        rotate_left 1
                        · intro w; go_simp; try with_reducible rfl
                        simp only [Act.put, List.setIfInBounds_toArray, List.set_cons_zero, List.set_cons_succ]
                        refine take_at (i := 7) (v := ?_) rfl (by kernel_rfl) (by kernel_rfl) (by kernel_rfl) (fun _ _ _ h => h) (some 61) rfl (Or.inl ⟨by rfl, ?_⟩) ?_
                        rotate_left 1
                        · intro w; go_simp; try with_reducible rfl
                        simp only [Act.put, List.setIfInBounds_toArray, List.set_cons_zero, List.set_cons_succ]
                        refine wpAny_ready (rs := [9]) (by kernel_rfl) (by simp) ?_
                        refine AllReady.cons rfl (fun KK hKK => ?_) AllReady.nil
                        refine step_store (by rfl) 27 (.tmp 11) (.tmp 59) (by rfl) _ (tlC A6 c6 (u)) (by rfl) (by rfl) 27 tlZ HP34.out size27 rfl (tlC_one ..) none rfl ?_
                        intro v hbk hon
                        have HX := DoBox.made (A5 := A5) (c5 := c5) HBy34.out HQ.out HP34.out HO34.out HE34.out hbk hon
                        clear hbk hon; refine hKK _ _ ?_; clear hKK KK; simp only [Act.put]
                        refine take_at (i := 10) (v := ?_) rfl (by kernel_rfl) (by kernel_rfl) (by kernel_rfl) (fun _ _ _ h => h) (some 12) rfl (Or.inl ⟨by rfl, ?_⟩) ?_
                        rotate_left 1
                        · intro w; go_simp; try with_reducible rfl
                        simp only [Act.put, List.setIfInBounds_toArray, List.set_cons_zero, List.set_cons_succ]
                        refine take_at (i := 11) (v := ?_) rfl (by kernel_rfl) (by kernel_rfl) (by kernel_rfl) (fun _ _ _ h => h) (some 13) rfl (Or.inl ⟨by rfl, ?_⟩) ?_
                        rotate_left 1
                        · intro w; go_simp; try with_reducible rfl
                        simp only [Act.put, List.setIfInBounds_toArray, List.set_cons_zero, List.set_cons_succ]
                        refine wpAny_done (by kernel_rfl) ?_ _
                        exact HSH _ _ _ _ _ _ _ _ HX
                      exact AllReady.nil
                    exact AllReady.nil
                  refine AllReady.cons rfl (fun KK hKK => ?_) ?_
                  · skip
                    go_simp
                    refine hKK _ _ ?_; clear hKK KK; try simp only [Act.put, List.setIfInBounds_toArray, List.set_cons_zero, List.set_cons_succ]
                    change wpAny _ _ _ _ _ _ _ (y0.alloc (.cells tlZ 27))
                    have hal := (Below.refl y0.heap.size y0).alloc (Nat.le_refl _) (.cells tlZ 27)
                    have HBy36 := Lib.hid ((HBy0.out).trans (hal.mono (HBy0.out).size)); have HP36 := Lib.hid (Blk.new y0 27 tlZ); have HQ := Lib.hid ((HBy0.out).size)
                    clear hal
                    generalize y0.alloc (.cells tlZ 27) = y36 at *
                    obtain ⟨p, hp⟩ : ∃ p, p = y0.heap.size := ⟨_, rfl⟩
                    rw [← hp] at HP36 HQ ⊢; clear hp
                    refine wpAny_ready (rs := [1]) (by kernel_rfl) (by simp) ?_
                    refine AllReady.cons rfl (fun KK hKK => ?_) ?_
                    · skip
                      refine step_call1 (by rfl) 13 (.tmp 55) _ (by rfl) (tlV A1 c1 u) (by rfl) (fun _ _ => rfl) _ (copy_any A1 c1 u y36 ((HOp1.out.rgs).below HBy36.out) (Nat.le_trans (Hsm.out).1 (by decide))) (some 56) rfl ?_
                      rintro e y37 ⟨A5, c5, rfl, ho5, hb⟩
                      refine ⟨_, rfl, ?_⟩
                      have HBy37 := Lib.hid ((HBy36.out).trans (hb.mono (HBy36.out).size)); have HC37 := Lib.hid ho5.rgs
                      have HP37 := Lib.hid (HP36.out.below hb HP36.out.lt)
                      clear hb ho5; refine hKK _ _ ?_; clear hKK KK; simp only [Act.put, List.setIfInBounds_toArray, List.set_cons_zero, List.set_cons_succ]
                      refine wpAny_ready (rs := [3]) (by kernel_rfl) (by simp) ?_
                      refine AllReady.cons rfl (fun KK hKK => ?_) ?_
                      · skip
                        refine step_call2 (by rfl) 22 (.tmp 56) (.tmp 57) _ (by rfl) (tlV A5 c5 u) (cmV (twM 9 h t (1 + z))) (by rfl) (by rfl) (fun _ _ => rfl) _ (do_as (w := y37) HC37.out (Hsm.out) (Hhs.out) ((G6.out.tb).below HBy37.out) (Ht2.out) (He2.out) (Hc2.out)) (some 58) rfl ?_
                        rintro e y38 ⟨A6, c6, B6, e6, rfl, ho6, he6, hb⟩
                        refine ⟨_, rfl, ?_⟩
                        have HBy38 := Lib.hid ((HBy37.out).trans (hb.mono (HBy37.out).size)); have HO38 := Lib.hid (Own.base ho6 (HBy37.out).size); have HE38 := Lib.hid (OwnE.base he6 (HBy37.out).size)
                        have HP38 := Lib.hid (HP37.out.below hb HP37.out.lt)
                        clear hb ho6 he6; refine hKK _ _ ?_; clear hKK KK; simp only [Act.put, List.setIfInBounds_toArray, List.set_cons_zero, List.set_cons_succ]
                        refine take_at (i := 4) (v := ?_) rfl (by kernel_rfl) (by kernel_rfl) (by kernel_rfl) (fun _ _ _ h => h) (some 54) rfl (Or.inl ⟨by rfl, ?_⟩) ?_
                        rotate_left 1
                        · intro w; go_simp; try with_reducible rfl
                        simp only [Act.put, List.setIfInBounds_toArray, List.set_cons_zero, List.set_cons_succ]
                        refine take_at (i := 5) (v := ?_) rfl (by kernel_rfl) (by kernel_rfl) (by kernel_rfl) (fun _ _ _ h => h) (some 59) rfl (Or.inl ⟨by rfl, ?_⟩) ?_
                        rotate_left 1
                        · intro w; go_simp; try with_reducible rfl
                        simp only [Act.put, List.setIfInBounds_toArray, List.set_cons_zero, List.set_cons_succ]
                        refine take_at (i := 6) (v := ?_) rfl (by kernel_rfl) (by kernel_rfl) (by kernel_rfl) (fun _ _ _ h => h) (some 60) rfl (Or.inl ⟨by rfl, ?_⟩) ?_
                        rotate_left 1
                        · intro w; go_simp; try with_reducible rfl
                        simp only [Act.put, List.setIfInBounds_toArray, List.set_cons_zero, List.set_cons_succ]
                        refine take_at (i := 7) (v := ?_) rfl (by kernel_rfl) (by kernel_rfl) (by kernel_rfl) (fun _ _ _ h => h) (some 61) rfl (Or.inl ⟨by rfl, ?_⟩) ?_
                        rotate_left 1
                        · intro w; go_simp; try with_reducible rfl
                        simp only [Act.put, List.setIfInBounds_toArray, List.set_cons_zero, List.set_cons_succ]
                        refine wpAny_ready (rs := [9]) (by kernel_rfl) (by simp) ?_
                        refine AllReady.cons rfl (fun KK hKK => ?_) AllReady.nil
                        refine step_store (by rfl) 27 (.tmp 11) (.tmp 59) (by rfl) _ (tlC A6 c6 (u)) (by rfl) (by rfl) 27 tlZ HP38.out size27 rfl (tlC_one ..) none rfl ?_
                        intro v hbk hon
                        have HX := DoBox.made (A5 := A5) (c5 := c5) HBy38.out HQ.out HP38.out HO38.out HE38.out hbk hon
                        clear hbk hon; refine hKK _ _ ?_; clear hKK KK; simp only [Act.put]
                        refine take_at (i := 10) (v := ?_) rfl (by kernel_rfl) (by kernel_rfl) (by kernel_rfl) (fun _ _ _ h => h) (some 12) rfl (Or.inl ⟨by rfl, ?_⟩) ?_
                        rotate_left 1
                        · intro w; go_simp; try with_reducible rfl
                        simp only [Act.put, List.setIfInBounds_toArray, List.set_cons_zero, List.set_cons_succ]
                        refine take_at (i := 11) (v := ?_) rfl (by kernel_rfl) (by kernel_rfl) (by kernel_rfl) (fun _ _ _ h => h) (some 13) rfl (Or.inl ⟨by rfl, ?_⟩) ?_
                        rotate_left 1
                        · intro w; go_simp; try with_reducible rfl
                        simp only [Act.put, List.setIfInBounds_toArray, List.set_cons_zero, List.set_cons_succ]
                        refine wpAny_done (by kernel_rfl) ?_ _
                        exact HSH _ _ _ _ _ _ _ _ HX
                      exact AllReady.nil
                    exact AllReady.nil
                  exact AllReady.nil
                refine AllReady.cons rfl (fun KK hKK => ?_) ?_
                · skip
                  go_simp
                  refine hKK _ _ ?_; clear hKK KK; try simp only [Act.put, List.setIfInBounds_toArray, List.set_cons_zero, List.set_cons_succ]
                  change wpAny _ _ _ _ _ _ _ (y0.alloc (.cells tlZ 27))
                  have hal := (Below.refl y0.heap.size y0).alloc (Nat.le_refl _) (.cells tlZ 27)
                  have HBy40 := Lib.hid ((HBy0.out).trans (hal.mono (HBy0.out).size)); have HP40 := Lib.hid (Blk.new y0 27 tlZ); have HQ := Lib.hid ((HBy0.out).size)
                  clear hal
                  generalize y0.alloc (.cells tlZ 27) = y40 at *
                  obtain ⟨p, hp⟩ : ∃ p, p = y0.heap.size := ⟨_, rfl⟩
                  rw [← hp] at HP40 HQ ⊢; clear hp
                  refine wpAny_ready (rs := [0]) (by kernel_rfl) (by simp) ?_
                  refine AllReady.cons rfl (fun KK hKK => ?_) ?_
                  · skip
                    refine step_load (by rfl) 27 (.tmp 8) (by rfl) p1 (by rfl) 27 (tlC A1 c1 u) ((HBp1.out).below HBy40.out (HBp1.out).lt) _ Tryd.underlying27 rfl size27 (some 55) rfl ?_
                    refine hKK _ _ ?_; clear hKK KK; simp only [Act.put, List.setIfInBounds_toArray, List.set_cons_zero, List.set_cons_succ]
                    refine wpAny_ready (rs := [1]) (by kernel_rfl) (by simp) ?_
                    refine AllReady.cons rfl (fun KK hKK => ?_) ?_
                    · skip
                      refine step_call1 (by rfl) 13 (.tmp 55) _ (by rfl) (tlV A1 c1 u) (by rfl) (fun _ _ => rfl) _ (copy_any A1 c1 u y40 ((HOp1.out.rgs).below HBy40.out) (Nat.le_trans (Hsm.out).1 (by decide))) (some 56) rfl ?_
                      rintro e y41 ⟨A5, c5, rfl, ho5, hb⟩
                      refine ⟨_, rfl, ?_⟩
                      have HBy41 := Lib.hid ((HBy40.out).trans (hb.mono (HBy40.out).size)); have HC41 := Lib.hid ho5.rgs
                      have HP41 := Lib.hid (HP40.out.below hb HP40.out.lt)
                      clear hb ho5; refine hKK _ _ ?_; clear hKK KK; simp only [Act.put, List.setIfInBounds_toArray, List.set_cons_zero, List.set_cons_succ]
                      refine wpAny_ready (rs := [3]) (by kernel_rfl) (by simp) ?_
                      refine AllReady.cons rfl (fun KK hKK => ?_) ?_
                      · skip
                        refine step_call2 (by rfl) 22 (.tmp 56) (.tmp 57) _ (by rfl) (tlV A5 c5 u) (cmV (twM 9 h t (1 + z))) (by rfl) (by rfl) (fun _ _ => rfl) _ (do_as (w := y41) HC41.out (Hsm.out) (Hhs.out) ((G6.out.tb).below HBy41.out) (Ht2.out) (He2.out) (Hc2.out)) (some 58) rfl ?_
                        rintro e y42 ⟨A6, c6, B6, e6, rfl, ho6, he6, hb⟩
                        refine ⟨_, rfl, ?_⟩
                        have HBy42 := Lib.hid ((HBy41.out).trans (hb.mono (HBy41.out).size)); have HO42 := Lib.hid (Own.base ho6 (HBy41.out).size); have HE42 := Lib.hid (OwnE.base he6 (HBy41.out).size)
                        have HP42 := Lib.hid (HP41.out.below hb HP41.out.lt)
                        clear hb ho6 he6; refine hKK _ _ ?_; clear hKK KK; simp only [Act.put, List.setIfInBounds_toArray, List.set_cons_zero, List.set_cons_succ]
                        refine take_at (i := 4) (v := ?_) rfl (by kernel_rfl) (by kernel_rfl) (by kernel_rfl) (fun _ _ _ h => h) (some 54) rfl (Or.inl ⟨by rfl, ?_⟩) ?_
                        rotate_left 1
                        · intro w; go_simp; try with_reducible rfl
                        simp only [Act.put, List.setIfInBounds_toArray, List.set_cons_zero, List.set_cons_succ]
                        refine take_at (i := 5) (v := ?_) rfl (by kernel_rfl) (by kernel_rfl) (by kernel_rfl) (fun _ _ _ h => h) (some 59) rfl (Or.inl ⟨by rfl, ?_⟩) ?_
                        rotate_left 1
                        · intro w; go_simp; try with_reducible rfl
                        simp only [Act.put, List.setIfInBounds_toArray, List.set_cons_zero, List.set_cons_succ]
                        refine take_at (i := 6) (v := ?_) rfl (by kernel_rfl) (by kernel_rfl) (by kernel_rfl) (fun _ _ _ h => h) (some 60) rfl (Or.inl ⟨by rfl, ?_⟩) ?_
                        rotate_left 1
                        · intro w; go_simp; try with_reducible rfl
                        simp only [Act.put, List.setIfInBounds_toArray, List.set_cons_zero, List.set_cons_succ]
                        refine take_at (i := 7) (v := ?_) rfl (by kernel_rfl) (by kernel_rfl) (by kernel_rfl) (fun _ _ _ h => h) (some 61) rfl (Or.inl ⟨by rfl, ?_⟩) ?_
                        rotate_left 1
                        · intro w; go_simp; try with_reducible rfl
                        simp only [Act.put, List.setIfInBounds_toArray, List.set_cons_zero, List.set_cons_succ]
                        refine wpAny_ready (rs := [9]) (by kernel_rfl) (by simp) ?_
                        refine AllReady.cons rfl (fun KK hKK => ?_) AllReady.nil
                        refine step_store (by rfl) 27 (.tmp 11) (.tmp 59) (by rfl) _ (tlC A6 c6 (u)) (by rfl) (by rfl) 27 tlZ HP42.out size27 rfl (tlC_one ..) none rfl ?_
                        intro v hbk hon
                        have HX := DoBox.made (A5 := A5) (c5 := c5) HBy42.out HQ.out HP42.out HO42.out HE42.out hbk hon
                        clear hbk hon; refine hKK _ _ ?_; clear hKK KK; simp only [Act.put]
                        refine take_at (i := 10) (v := ?_) rfl (by kernel_rfl) (by kernel_rfl) (by kernel_rfl) (fun _ _ _ h => h) (some 12) rfl (Or.inl ⟨by rfl, ?_⟩) ?_
                        rotate_left 1
                        · intro w; go_simp; try with_reducible rfl
                        simp only [Act.put, List.setIfInBounds_toArray, List.set_cons_zero, List.set_cons_succ]
                        refine take_at (i := 11) (v := ?_) rfl (by kernel_rfl) (by kernel_rfl) (by kernel_rfl) (fun _ _ _ h => h) (some 13) rfl (Or.inl ⟨by rfl, ?_⟩) ?_
                        rotate_left 1
                        · intro w; go_simp; try with_reducible rfl
                        simp only [Act.put, List.setIfInBounds_toArray, List.set_cons_zero, List.set_cons_succ]
                        refine wpAny_done (by kernel_rfl) ?_ _
                        exact HSH _ _ _ _ _ _ _ _ HX
                      exact AllReady.nil
                    exact AllReady.nil
                  exact AllReady.nil
                exact AllReady.nil
              refine AllReady.cons rfl (fun KK hKK => ?_) ?_
              · skip
                go_simp
                refine hKK _ _ ?_; clear hKK KK; try simp only [Act.put, List.setIfInBounds_toArray, List.set_cons_zero, List.set_cons_succ]
                change wpAny _ _ _ _ _ _ _ (y0.alloc (.cells tlZ 27))
                have hal := (Below.refl y0.heap.size y0).alloc (Nat.le_refl _) (.cells tlZ 27)
                have HBy44 := Lib.hid ((HBy0.out).trans (hal.mono (HBy0.out).size)); have HP44 := Lib.hid (Blk.new y0 27 tlZ); have HQ := Lib.hid ((HBy0.out).size)
                clear hal
                generalize y0.alloc (.cells tlZ 27) = y44 at *
                obtain ⟨p, hp⟩ : ∃ p, p = y0.heap.size := ⟨_, rfl⟩
                rw [← hp] at HP44 HQ ⊢; clear hp
                refine wpAny_ready (rs := [0, 2]) (by kernel_rfl) (by simp) ?_
                refine AllReady.cons rfl (fun KK hKK => ?_) ?_
                · skip
                  refine step_load (by rfl) 27 (.tmp 8) (by rfl) p1 (by rfl) 27 (tlC A1 c1 u) ((HBp1.out).below HBy44.out (HBp1.out).lt) _ Tryd.underlying27 rfl size27 (some 55) rfl ?_
                  refine hKK _ _ ?_; clear hKK KK; simp only [Act.put, List.setIfInBounds_toArray, List.set_cons_zero, List.set_cons_succ]
                  refine wpAny_ready (rs := [1, 2]) (by kernel_rfl) (by simp) ?_
                  refine AllReady.cons rfl (fun KK hKK => ?_) ?_
                  · skip
                    refine step_call1 (by rfl) 13 (.tmp 55) _ (by rfl) (tlV A1 c1 u) (by rfl) (fun _ _ => rfl) _ (copy_any A1 c1 u y44 ((HOp1.out.rgs).below HBy44.out) (Nat.le_trans (Hsm.out).1 (by decide))) (some 56) rfl ?_
                    rintro e y45 ⟨A5, c5, rfl, ho5, hb⟩
                    refine ⟨_, rfl, ?_⟩
                    have HBy45 := Lib.hid ((HBy44.out).trans (hb.mono (HBy44.out).size)); have HC45 := Lib.hid ho5.rgs
                    have HP45 := Lib.hid (HP44.out.below hb HP44.out.lt)
                    clear hb ho5; refine hKK _ _ ?_; clear hKK KK; simp only [Act.put, List.setIfInBounds_toArray, List.set_cons_zero, List.set_cons_succ]
                    refine wpAny_ready (rs := [2]) (by kernel_rfl) (by simp) ?_
                    refine AllReady.cons rfl (fun KK hKK => ?_) ?_
                    · skip
                      refine step_load (by rfl) 37 (.tmp 7) (by rfl) pm (by rfl) 37 (cmC (twM 9 h t (1 + z))) ((HCM6.out).below HBy45.out (HCM6.out).lt) _ Tryd.underlying37 rfl size37 (some 57) rfl ?_
                      refine hKK _ _ ?_; clear hKK KK; simp only [Act.put, List.setIfInBounds_toArray, List.set_cons_zero, List.set_cons_succ]
                      refine wpAny_ready (rs := [3]) (by kernel_rfl) (by simp) ?_
                      refine AllReady.cons rfl (fun KK hKK => ?_) ?_
                      · skip
                        refine step_call2 (by rfl) 22 (.tmp 56) (.tmp 57) _ (by rfl) (tlV A5 c5 u) (cmV (twM 9 h t (1 + z))) (by rfl) (by rfl) (fun _ _ => rfl) _ (do_as (w := y45) HC45.out (Hsm.out) (Hhs.out) ((G6.out.tb).below HBy45.out) (Ht2.out) (He2.out) (Hc2.out)) (some 58) rfl ?_
                        rintro e y46 ⟨A6, c6, B6, e6, rfl, ho6, he6, hb⟩
                        refine ⟨_, rfl, ?_⟩
                        have HBy46 := Lib.hid ((HBy45.out).trans (hb.mono (HBy45.out).size)); have HO46 := Lib.hid (Own.base ho6 (HBy45.out).size); have HE46 := Lib.hid (OwnE.base he6 (HBy45.out).size)
                        have HP46 := Lib.hid (HP45.out.below hb HP45.out.lt)
                        clear hb ho6 he6; refine hKK _ _ ?_; clear hKK KK; simp only [Act.put, List.setIfInBounds_toArray, List.set_cons_zero, List.set_cons_succ]
                        refine take_at (i := 4) (v := ?_) rfl (by kernel_rfl) (by kernel_rfl) (by kernel_rfl) (fun _ _ _ h => h) (some 54) rfl (Or.inl ⟨by rfl, ?_⟩) ?_
                        rotate_left 1
                        · intro w; go_simp; try with_reducible rfl
                        simp only [Act.put, List.setIfInBounds_toArray, List.set_cons_zero, List.set_cons_succ]
                        refine take_at (i := 5) (v := ?_) rfl (by kernel_rfl) (by kernel_rfl) (by kernel_rfl) (fun _ _ _ h => h) (some 59) rfl (Or.inl ⟨by rfl, ?_⟩) ?_
                        rotate_left 1
                        · intro w; go_simp; try with_reducible rfl
                        simp only [Act.put, List.setIfInBounds_toArray, List.set_cons_zero, List.set_cons_succ]
                        refine take_at (i := 6) (v := ?_) rfl (by kernel_rfl) (by kernel_rfl) (by kernel_rfl) (fun _ _ _ h => h) (some 60) rfl (Or.inl ⟨by rfl, ?_⟩) ?_
                        rotate_left 1
                        · intro w; go_simp; try with_reducible rfl
                        simp only [Act.put, List.setIfInBounds_toArray, List.set_cons_zero, List.set_cons_succ]
                        refine take_at (i := 7) (v := ?_) rfl (by kernel_rfl) (by kernel_rfl) (by kernel_rfl) (fun _ _ _ h => h) (some 61) rfl (Or.inl ⟨by rfl, ?_⟩) ?_
                        rotate_left 1
                        · intro w; go_simp; try with_reducible rfl
                        simp only [Act.put, List.setIfInBounds_toArray, List.set_cons_zero, List.set_cons_succ]
                        refine wpAny_ready (rs := [9]) (by kernel_rfl) (by simp) ?_
                        refine AllReady.cons rfl (fun KK hKK => ?_) AllReady.nil
                        refine step_store (by rfl) 27 (.tmp 11) (.tmp 59) (by rfl) _ (tlC A6 c6 (u)) (by rfl) (by rfl) 27 tlZ HP46.out size27 rfl (tlC_one ..) none rfl ?_
                        intro v hbk hon
                        have HX := DoBox.made (A5 := A5) (c5 := c5) HBy46.out HQ.out HP46.out HO46.out HE46.out hbk hon
                        clear hbk hon; refine hKK _ _ ?_; clear hKK KK; simp only [Act.put]
                        refine take_at (i := 10) (v := ?_) rfl (by kernel_rfl) (by kernel_rfl) (by kernel_rfl) (fun _ _ _ h => h) (some 12) rfl (Or.inl ⟨by rfl, ?_⟩) ?_
                        rotate_left 1
                        · intro w; go_simp; try with_reducible rfl
                        simp only [Act.put, List.setIfInBounds_toArray, List.set_cons_zero, List.set_cons_succ]
                        refine take_at (i := 11) (v := ?_) rfl (by kernel_rfl) (by kernel_rfl) (by kernel_rfl) (fun _ _ _ h => h) (some 13) rfl (Or.inl ⟨by rfl, ?_⟩) ?_
                        rotate_left 1
                        · intro w; go_simp; try with_reducible rfl
                        simp only [Act.put, List.setIfInBounds_toArray, List.set_cons_zero, List.set_cons_succ]
                        refine wpAny_done (by kernel_rfl) ?_ _
                        exact HSH _ _ _ _ _ _ _ _ HX
                      exact AllReady.nil
                    exact AllReady.nil
                  refine AllReady.cons rfl (fun KK hKK => ?_) ?_
                  · skip
                    refine step_load (by rfl) 37 (.tmp 7) (by rfl) pm (by rfl) 37 (cmC (twM 9 h t (1 + z))) ((HCM6.out).below HBy44.out (HCM6.out).lt) _ Tryd.underlying37 rfl size37 (some 57) rfl ?_
                    refine hKK _ _ ?_; clear hKK KK; simp only [Act.put, List.setIfInBounds_toArray, List.set_cons_zero, List.set_cons_succ]
                    refine wpAny_ready (rs := [1]) (by kernel_rfl) (by simp) ?_
                    refine AllReady.cons rfl (fun KK hKK => ?_) ?_
                    · skip
                      refine step_call1 (by rfl) 13 (.tmp 55) _ (by rfl) (tlV A1 c1 u) (by rfl) (fun _ _ => rfl) _ (copy_any A1 c1 u y44 ((HOp1.out.rgs).below HBy44.out) (Nat.le_trans (Hsm.out).1 (by decide))) (some 56) rfl ?_
                      rintro e y48 ⟨A5, c5, rfl, ho5, hb⟩
                      refine ⟨_, rfl, ?_⟩
                      have HBy48 := Lib.hid ((HBy44.out).trans (hb.mono (HBy44.out).size)); have HC48 := Lib.hid ho5.rgs
                      have HP48 := Lib.hid (HP44.out.below hb HP44.out.lt)
                      clear hb ho5; refine hKK _ _ ?_; clear hKK KK; simp only [Act.put, List.setIfInBounds_toArray, List.set_cons_zero, List.set_cons_succ]
                      refine wpAny_ready (rs := [3]) (by kernel_rfl) (by simp) ?_
                      refine AllReady.cons rfl (fun KK hKK => ?_) ?_
                      · skip
                        refine step_call2 (by rfl) 22 (.tmp 56) (.tmp 57) _ (by rfl) (tlV A5 c5 u) (cmV (twM 9 h t (1 + z))) (by rfl) (by rfl) (fun _ _ => rfl) _ (do_as (w := y48) HC48.out (Hsm.out) (Hhs.out) ((G6.out.tb).below HBy48.out) (Ht2.out) (He2.out) (Hc2.out)) (some 58) rfl ?_
                        rintro e y49 ⟨A6, c6, B6, e6, rfl, ho6, he6, hb⟩
                        refine ⟨_, rfl, ?_⟩
                        have HBy49 := Lib.hid ((HBy48.out).trans (hb.mono (HBy48.out).size)); have HO49 := Lib.hid (Own.base ho6 (HBy48.out).size); have HE49 := Lib.hid (OwnE.base he6 (HBy48.out).size)
                        have HP49 := Lib.hid (HP48.out.below hb HP48.out.lt)
                        clear hb ho6 he6; refine hKK _ _ ?_; clear hKK KK; simp only [Act.put, List.setIfInBounds_toArray, List.set_cons_zero, List.set_cons_succ]
                        refine take_at (i := 4) (v := ?_) rfl (by kernel_rfl) (by kernel_rfl) (by kernel_rfl) (fun _ _ _ h => h) (some 54) rfl (Or.inl ⟨by rfl, ?_⟩) ?_
                        rotate_left 1
                        · intro w; go_simp; try with_reducible rfl
                        simp only [Act.put, List.setIfInBounds_toArray, List.set_cons_zero, List.set_cons_succ]
                        refine take_at (i := 5) (v := ?_) rfl (by kernel_rfl) (by kernel_rfl) (by kernel_rfl) (fun _ _ _ h => h) (some 59) rfl (Or.inl ⟨by rfl, ?_⟩) ?_
                        rotate_left 1
                        · intro w; go_simp; try with_reducible rfl
                        simp only [Act.put, List.setIfInBounds_toArray, List.set_cons_zero, List.set_cons_succ]
                        refine take_at (i := 6) (v := ?_) rfl (by kernel_rfl) (by kernel_rfl) (by kernel_rfl) (fun _ _ _ h => h) (some 60) rfl (Or.inl ⟨by rfl, ?_⟩) ?_
                        rotate_left 1
                        · intro w; go_simp; try with_reducible rfl
                        simp only [Act.put, List.setIfInBounds_toArray, List.set_cons_zero, List.set_cons_succ]
                        refine take_at (i := 7) (v := ?_) rfl (by kernel_rfl) (by kernel_rfl) (by kernel_rfl) (fun _ _ _ h => h) (some 61) rfl (Or.inl ⟨by rfl, ?_⟩) ?_
                        rotate_left 1
                        · intro w; go_simp; try with_reducible rfl
                        simp only [Act.put, List.setIfInBounds_toArray, List.set_cons_zero, List.set_cons_succ]
                        refine wpAny_ready (rs := [9]) (by kernel_rfl) (by simp) ?_
                        refine AllReady.cons rfl (fun KK hKK => ?_) AllReady.nil
                        refine step_store (by rfl) 27 (.tmp 11) (.tmp 59) (by rfl) _ (tlC A6 c6 (u)) (by rfl) (by rfl) 27 tlZ HP49.out size27 rfl (tlC_one ..) none rfl ?_
                        intro v hbk hon
                        have HX := DoBox.made (A5 := A5) (c5 := c5) HBy49.out HQ.out HP49.out HO49.out HE49.out hbk hon
                        clear hbk hon; refine hKK _ _ ?_; clear hKK KK; simp only [Act.put]
                        refine take_at (i := 10) (v := ?_) rfl (by kernel_rfl) (by kernel_rfl) (by kernel_rfl) (fun _ _ _ h => h) (some 12) rfl (Or.inl ⟨by rfl, ?_⟩) ?_
                        rotate_left 1
                        · intro w; go_simp; try with_reducible rfl
                        simp only [Act.put, List.setIfInBounds_toArray, List.set_cons_zero, List.set_cons_succ]
                        refine take_at (i := 11) (v := ?_) rfl (by kernel_rfl) (by kernel_rfl) (by kernel_rfl) (fun _ _ _ h => h) (some 13) rfl (Or.inl ⟨by rfl, ?_⟩) ?_
                        rotate_left 1
                        · intro w; go_simp; try with_reducible rfl
                        simp only [Act.put, List.setIfInBounds_toArray, List.set_cons_zero, List.set_cons_succ]
                        refine wpAny_done (by kernel_rfl) ?_ _
                        exact HSH _ _ _ _ _ _ _ _ HX
                      exact AllReady.nil
                    exact AllReady.nil
                  exact AllReady.nil
                refine AllReady.cons rfl (fun KK hKK => ?_) ?_
                · skip
                  refine step_load (by rfl) 37 (.tmp 7) (by rfl) pm (by rfl) 37 (cmC (twM 9 h t (1 + z))) ((HCM6.out).below HBy44.out (HCM6.out).lt) _ Tryd.underlying37 rfl size37 (some 57) rfl ?_
                  refine hKK _ _ ?_; clear hKK KK; simp only [Act.put, List.setIfInBounds_toArray, List.set_cons_zero, List.set_cons_succ]
                  refine wpAny_ready (rs := [0]) (by kernel_rfl) (by simp) ?_
                  refine AllReady.cons rfl (fun KK hKK => ?_) ?_
                  · skip
                    refine step_load (by rfl) 27 (.tmp 8) (by rfl) p1 (by rfl) 27 (tlC A1 c1 u) ((HBp1.out).below HBy44.out (HBp1.out).lt) _ Tryd.underlying27 rfl size27 (some 55) rfl ?_
                    refine hKK _ _ ?_; clear hKK KK; simp only [Act.put, List.setIfInBounds_toArray, List.set_cons_zero, List.set_cons_succ]
                    refine wpAny_ready (rs := [1]) (by kernel_rfl) (by simp) ?_
                    refine AllReady.cons rfl (fun KK hKK => ?_) ?_
                    · skip
                      refine step_call1 (by rfl) 13 (.tmp 55) _ (by rfl) (tlV A1 c1 u) (by rfl) (fun _ _ => rfl) _ (copy_any A1 c1 u y44 ((HOp1.out.rgs).below HBy44.out) (Nat.le_trans (Hsm.out).1 (by decide))) (some 56) rfl ?_
                      rintro e y51 ⟨A5, c5, rfl, ho5, hb⟩
                      refine ⟨_, rfl, ?_⟩
                      have HBy51 := Lib.hid ((HBy44.out).trans (hb.mono (HBy44.out).size)); have HC51 := Lib.hid ho5.rgs
                      have HP51 := Lib.hid (HP44.out.below hb HP44.out.lt)
                      clear hb ho5; refine hKK _ _ ?_; clear hKK KK; simp only [Act.put, List.setIfInBounds_toArray, List.set_cons_zero, List.set_cons_succ]
                      refine wpAny_ready (rs := [3]) (by kernel_rfl) (by simp) ?_
                      refine AllReady.cons rfl (fun KK hKK => ?_) ?_
                      · skip
                        refine step_call2 (by rfl) 22 (.tmp 56) (.tmp 57) _ (by rfl) (tlV A5 c5 u) (cmV (twM 9 h t (1 + z))) (by rfl) (by rfl) (fun _ _ => rfl) _ (do_as (w := y51) HC51.out (Hsm.out) (Hhs.out) ((G6.out.tb).below HBy51.out) (Ht2.out) (He2.out) (Hc2.out)) (some 58) rfl ?_
                        rintro e y52 ⟨A6, c6, B6, e6, rfl, ho6, he6, hb⟩
                        refine ⟨_, rfl, ?_⟩
                        have HBy52 := Lib.hid ((HBy51.out).trans (hb.mono (HBy51.out).size)); have HO52 := Lib.hid (Own.base ho6 (HBy51.out).size); have HE52 := Lib.hid (OwnE.base he6 (HBy51.out).size)
                        have HP52 := Lib.hid (HP51.out.below hb HP51.out.lt)
                        clear hb ho6 he6; refine hKK _ _ ?_; clear hKK KK; simp only [Act.put, List.setIfInBounds_toArray, List.set_cons_zero, List.set_cons_succ]
                        refine take_at (i := 4) (v := ?_) rfl (by kernel_rfl) (by kernel_rfl) (by kernel_rfl) (fun _ _ _ h => h) (some 54) rfl (Or.inl ⟨by rfl, ?_⟩) ?_
                        rotate_left 1
                        · intro w; go_simp; try with_reducible rfl
                        simp only [Act.put, List.setIfInBounds_toArray, List.set_cons_zero, List.set_cons_succ]
                        refine take_at (i := 5) (v := ?_) rfl (by kernel_rfl) (by kernel_rfl) (by kernel_rfl) (fun _ _ _ h => h) (some 59) rfl (Or.inl ⟨by rfl, ?_⟩) ?_
                        rotate_left 1
                        · intro w; go_simp; try with_reducible rfl
                        simp only [Act.put, List.setIfInBounds_toArray, List.set_cons_zero, List.set_cons_succ]
                        refine take_at (i := 6) (v := ?_) rfl (by kernel_rfl) (by kernel_rfl) (by kernel_rfl) (fun _ _ _ h => h) (some 60) rfl (Or.inl ⟨by rfl, ?_⟩) ?_
                        rotate_left 1
                        · intro w; go_simp; try with_reducible rfl
                        simp only [Act.put, List.setIfInBounds_toArray, List.set_cons_zero, List.set_cons_succ]
                        refine take_at (i := 7) (v := ?_) rfl (by kernel_rfl) (by kernel_rfl) (by kernel_rfl) (fun _ _ _ h => h) (some 61) rfl (Or.inl ⟨by rfl, ?_⟩) ?_
                        rotate_left 1
                        · intro w; go_simp; try with_reducible rfl
                        simp only [Act.put, List.setIfInBounds_toArray, List.set_cons_zero, List.set_cons_succ]
                        refine wpAny_ready (rs := [9]) (by kernel_rfl) (by simp) ?_
                        refine AllReady.cons rfl (fun KK hKK => ?_) AllReady.nil
                        refine step_store (by rfl) 27 (.tmp 11) (.tmp 59) (by rfl) _ (tlC A6 c6 (u)) (by rfl) (by rfl) 27 tlZ HP52.out size27 rfl (tlC_one ..) none rfl ?_
                        intro v hbk hon
                        have HX := DoBox.made (A5 := A5) (c5 := c5) HBy52.out HQ.out HP52.out HO52.out HE52.out hbk hon
                        clear hbk hon; refine hKK _ _ ?_; clear hKK KK; simp only [Act.put]
                        refine take_at (i := 10) (v := ?_) rfl (by kernel_rfl) (by kernel_rfl) (by kernel_rfl) (fun _ _ _ h => h) (some 12) rfl (Or.inl ⟨by rfl, ?_⟩) ?_
                        rotate_left 1
                        · intro w; go_simp; try with_reducible rfl
                        simp only [Act.put, List.setIfInBounds_toArray, List.set_cons_zero, List.set_cons_succ]
                        refine take_at (i := 11) (v := ?_) rfl (by kernel_rfl) (by kernel_rfl) (by kernel_rfl) (fun _ _ _ h => h) (some 13) rfl (Or.inl ⟨by rfl, ?_⟩) ?_
                        rotate_left 1
                        · intro w; go_simp; try with_reducible rfl
                        simp only [Act.put, List.setIfInBounds_toArray, List.set_cons_zero, List.set_cons_succ]
                        refine wpAny_done (by kernel_rfl) ?_ _
                        exact HSH _ _ _ _ _ _ _ _ HX
                      exact AllReady.nil
                    exact AllReady.nil
                  exact AllReady.nil
                exact AllReady.nil
              exact AllReady.nil
            · skip
              intro v7 p2 A7 c7 A2 c2 B2 e2 HF
              obtain ⟨hb, hp, hbk, ho, he⟩ := HF
              have G7 := Lib.hid (G6.out.below hb); have HBp2 := Lib.hid hbk; have HOp2 := Lib.hid ho; have HEp2 := Lib.hid he; have HPp2 := Lib.hid hp; have HW7 := Lib.hid hb
              refine hKRy _ _ ?_
              clear hb hp hbk ho he hKRy KRy
              have HCM7 := Lib.hid (HCM6.out.below HW7.out HCM6.out.lt)
              have HB71 := Lib.hid (HBp1.out.below HW7.out HBp1.out.lt)
              have HR71 := Lib.hid ((HOp1.out.below HW7.out).rgs)
              have HR72 := Lib.hid (HOp2.out.rgs)
              have a0 : v7.cell? ⟨p1, 0, none⟩ = some (.slice A1 u.rs.length c1) := HB71.out.cell 0
              have a1 : v7.cell? ⟨p1, 1, none⟩ = some (.int .i64 u.ty) := HB71.out.cell 1
              have a2 : v7.cell? ⟨p1, 2, none⟩ = some (.string u.ho) := HB71.out.cell 2
              have a3 : v7.cell? ⟨p1, 3, none⟩ = some (.int .u32 u.ge) := HB71.out.cell 3
              have a4 : v7.cell? ⟨p1, 4, none⟩ = some (.bool u.ap) := HB71.out.cell 4
              have b0 : v7.cell? ⟨p2, 0, none⟩ = some (.slice A2 u.rs.length c2) := HBp2.out.cell 0
              have b1 : v7.cell? ⟨p2, 1, none⟩ = some (.int .i64 u.ty) := HBp2.out.cell 1
              have b2 : v7.cell? ⟨p2, 2, none⟩ = some (.string u.ho) := HBp2.out.cell 2
              have b3 : v7.cell? ⟨p2, 3, none⟩ = some (.int .u32 u.ge) := HBp2.out.cell 3
              have b4 : v7.cell? ⟨p2, 4, none⟩ = some (.bool u.ap) := HBp2.out.cell 4
              have t2 : v7.cell? ⟨w.heap.size, 2, none⟩ = some (.string t.ho) := G7.out.b.cell 2
              have t3' : v7.cell? ⟨w.heap.size, 3, none⟩ = some (.int .u32 t.ge) := G7.out.b.cell 3
              go_wp2_with (fail)
              refine (tables_same A1 A2 c1 c2 u v7 HR71.out HR72.out (Nat.le_trans Hsm.out.1 (by decide))).mono ?_; rintro e v8 ⟨rfl, hb⟩
              have G8 := Lib.hid (G7.out.below hb); have HCM8 := Lib.hid (HCM7.out.below hb HCM7.out.lt); have HB81 := Lib.hid (HB71.out.below hb HB71.out.lt); have HB82 := Lib.hid (HBp2.out.below hb HBp2.out.lt); have HO82 := Lib.hid (HOp2.out.below hb); have HW8 := Lib.hid hb
              clear hb a0 a1 a2 a3 a4 b0 b1 b2 b3 b4 t2 t3'
              have a3 : v8.cell? ⟨p1, 2, none⟩ = some (.string u.ho) := HB81.out.cell 2
              have a3' : v8.cell? ⟨p1, 3, none⟩ = some (.int .u32 t.ge) := by rw [← Hge.out]; exact HB81.out.cell 3
              have t3' : v8.cell? ⟨w.heap.size, 3, none⟩ = some (.int .u32 t.ge) := G8.out.b.cell 3
              have m0 : v8.cell? ⟨pm, 0, none⟩ = some (.int .i64 9) := HCM8.out.cell 0
              have mf : v8.frozen? ⟨pm, 0, none⟩ = false := HCM8.out.free 0
              go_upto_region 9 with (fail)
              have hpw := HPW.out
              have hP2 := HPp2.out
              have hP1 := HPp1.out
              have hpmw : pm < v5.heap.size := HPM.out
              have hw65 : v5.heap.size ≤ v6.heap.size := HW6.out.size
              have hbp : Below pm v8 (v8.setCell ⟨pm, 0, none⟩ (.int .i64 10)) := bel_put (Nat.le_refl _) (Nat.le_of_lt HCM8.out.lt) 0 (.int .i64 10)
              have hCN : Blk (v8.setCell ⟨pm, 0, none⟩ (.int .i64 10)) pm 37 (cmC (twM 10 h t (1 + z))) := HCM8.out.put 0 (.int .i64 10)
              have hG9 : BxAt w (v8.setCell ⟨pm, 0, none⟩ (.int .i64 10)) A c t := BxAt.again G8.out HL0.out HT0.out hbp hpw
              have hB2 : Blk (v8.setCell ⟨pm, 0, none⟩ (.int .i64 10)) p2 27 (tlC A2 c2 u) := HB82.out.far (p := ⟨pm, 0, none⟩) (by show p2 ≠ pm; omega) _
              have hO2 : Own (v8.setCell ⟨pm, 0, none⟩ (.int .i64 10)) v6.heap.size A2 c2 u.rs := ⟨own_keep HO82.out.1 fun g hg => Below.heap_setCell v8 _ _ g (by show g ≠ pm; have := (HO82.out.1.lt g hg).1; omega), HO82.out.2⟩
              have HCN := Lib.hid hCN; have G9 := Lib.hid hG9; have HB92 := Lib.hid hB2; have HR92 := Lib.hid hO2.rgs
              clear hpw hP2 hP1 hpmw hw65 hbp hCN hG9 hB2 hO2 a3 a3' t3' m0 mf
              generalize v8.setCell ⟨pm, 0, none⟩ (.int .i64 10) = v9 at *
              have HBz0 := Lib.hid (show Below v9.heap.size v9 v9.drew from (Below.refl _ _).drew)
              refine wp_region_any (by kernel_rfl) ?_
              change wpAny _ _ _ _ _ _ _ (World.drew v9)
              rename_i KRz hKRz
              generalize v9.drew = z0 at *
              apply share8 (DoBox v9 (t) (ev))
              · intro HSH
                refine wpAny_ready (rs := [0, 2, 8]) (by kernel_rfl) (by simp) ?_
                refine AllReady.cons rfl (fun KK hKK => ?_) ?_
                · skip
                  refine step_load (by rfl) 27 (.tmp 11) (by rfl) p2 (by rfl) 27 (tlC A2 c2 u) ((HB92.out).below HBz0.out (HB92.out).lt) _ Tryd.underlying27 rfl size27 (some 88) rfl ?_
                  refine hKK _ _ ?_; clear hKK KK; simp only [Act.put, List.setIfInBounds_toArray, List.set_cons_zero, List.set_cons_succ]
                  refine wpAny_ready (rs := [1, 2, 8]) (by kernel_rfl) (by simp) ?_
                  refine AllReady.cons rfl (fun KK hKK => ?_) ?_
                  · skip
                    refine step_call1 (by rfl) 13 (.tmp 88) _ (by rfl) (tlV A2 c2 u) (by rfl) (fun _ _ => rfl) _ (copy_any A2 c2 u z0 ((HR92.out).below HBz0.out) (Nat.le_trans (Hsm.out).1 (by decide))) (some 89) rfl ?_
                    rintro e z1 ⟨A5, c5, rfl, ho5, hb⟩
                    refine ⟨_, rfl, ?_⟩
                    have HBz1 := Lib.hid ((HBz0.out).trans (hb.mono (HBz0.out).size)); have HC1 := Lib.hid ho5.rgs
                    clear hb ho5; refine hKK _ _ ?_; clear hKK KK; simp only [Act.put, List.setIfInBounds_toArray, List.set_cons_zero, List.set_cons_succ]
                    refine wpAny_ready (rs := [2, 8]) (by kernel_rfl) (by simp) ?_
                    refine AllReady.cons rfl (fun KK hKK => ?_) ?_
                    · skip
                      refine step_load (by rfl) 37 (.tmp 7) (by rfl) pm (by rfl) 37 (cmC (twM 10 h t (1 + z))) ((HCN.out).below HBz1.out (HCN.out).lt) _ Tryd.underlying37 rfl size37 (some 90) rfl ?_
                      refine hKK _ _ ?_; clear hKK KK; simp only [Act.put, List.setIfInBounds_toArray, List.set_cons_zero, List.set_cons_succ]
                      refine wpAny_ready (rs := [3, 8]) (by kernel_rfl) (by simp) ?_
                      refine AllReady.cons rfl (fun KK hKK => ?_) ?_
                      · skip
                        refine step_call2 (by rfl) 22 (.tmp 89) (.tmp 90) _ (by rfl) (tlV A5 c5 u) (cmV (twM 10 h t (1 + z))) (by rfl) (by rfl) (fun _ _ => rfl) _ (do_as (w := z1) HC1.out (Hsm.out) (Hhs.out) ((G9.out.tb).below HBz1.out) (Ht3.out) (Hev.out) (Hc3.out)) (some 91) rfl ?_
                        rintro e z2 ⟨A6, c6, B6, e6, rfl, ho6, he6, hb⟩
                        refine ⟨_, rfl, ?_⟩
                        have HBz2 := Lib.hid ((HBz1.out).trans (hb.mono (HBz1.out).size)); have HO2 := Lib.hid (Own.base ho6 (HBz1.out).size); have HE2 := Lib.hid (OwnE.base he6 (HBz1.out).size)
                        clear hb ho6 he6; refine hKK _ _ ?_; clear hKK KK; simp only [Act.put, List.setIfInBounds_toArray, List.set_cons_zero, List.set_cons_succ]
                        refine take_at (i := 4) (v := ?_) rfl (by kernel_rfl) (by kernel_rfl) (by kernel_rfl) (fun _ _ _ h => h) (some 87) rfl (Or.inl ⟨by rfl, ?_⟩) ?_
                        rotate_left 1
                        · intro w; go_simp; try with_reducible rfl
                        simp only [Act.put, List.setIfInBounds_toArray, List.set_cons_zero, List.set_cons_succ]
                        refine take_at (i := 5) (v := ?_) rfl (by kernel_rfl) (by kernel_rfl) (by kernel_rfl) (fun _ _ _ h => h) (some 92) rfl (Or.inl ⟨by rfl, ?_⟩) ?_
                        rotate_left 1
                        · intro w; go_simp; try with_reducible rfl
                        simp only [Act.put, List.setIfInBounds_toArray, List.set_cons_zero, List.set_cons_succ]
                        refine take_at (i := 6) (v := ?_) rfl (by kernel_rfl) (by kernel_rfl) (by kernel_rfl) (fun _ _ _ h => h) (some 93) rfl (Or.inl ⟨by rfl, ?_⟩) ?_
                        rotate_left 1
                        · intro w; go_simp; try with_reducible rfl
                        simp only [Act.put, List.setIfInBounds_toArray, List.set_cons_zero, List.set_cons_succ]
                        refine take_at (i := 7) (v := ?_) rfl (by kernel_rfl) (by kernel_rfl) (by kernel_rfl) (fun _ _ _ h => h) (some 94) rfl (Or.inl ⟨by rfl, ?_⟩) ?_
                        rotate_left 1
                        · intro w; go_simp; try with_reducible rfl
                        simp only [Act.put, List.setIfInBounds_toArray, List.set_cons_zero, List.set_cons_succ]
                        refine wpAny_ready (rs := [8]) (by kernel_rfl) (by simp) ?_
                        refine AllReady.cons rfl (fun KK hKK => ?_) ?_
                        · skip
                          go_simp
                          refine hKK _ _ ?_; clear hKK KK; try simp only [Act.put, List.setIfInBounds_toArray, List.set_cons_zero, List.set_cons_succ]
                          change wpAny _ _ _ _ _ _ _ (z2.alloc (.cells tlZ 27))
                          have hal := (Below.refl z2.heap.size z2).alloc (Nat.le_refl _) (.cells tlZ 27)
                          have HBz3 := Lib.hid ((HBz2.out).trans (hal.mono (HBz2.out).size)); have HP3 := Lib.hid (Blk.new z2 27 tlZ); have HQ := Lib.hid ((HBz2.out).size)
                          have HO3 := Lib.hid (HO2.out.below hal); have HE3 := Lib.hid (HE2.out.below hal)
                          clear hal
                          generalize z2.alloc (.cells tlZ 27) = z3 at *
                          obtain ⟨p, hp⟩ : ∃ p, p = z2.heap.size := ⟨_, rfl⟩
                          rw [← hp] at HP3 HQ ⊢; clear hp
                          refine wpAny_ready (rs := [9]) (by kernel_rfl) (by simp) ?_
                          refine AllReady.cons rfl (fun KK hKK => ?_) AllReady.nil
                          refine step_store (by rfl) 27 (.tmp 14) (.tmp 92) (by rfl) _ (tlC A6 c6 (t)) (by rfl) (by rfl) 27 tlZ HP3.out size27 rfl (tlC_one ..) none rfl ?_
                          intro v hbk hon
                          have HX := DoBox.made (A5 := A5) (c5 := c5) HBz3.out HQ.out HP3.out HO3.out HE3.out hbk hon
                          clear hbk hon; refine hKK _ _ ?_; clear hKK KK; simp only [Act.put]
                          refine take_at (i := 10) (v := ?_) rfl (by kernel_rfl) (by kernel_rfl) (by kernel_rfl) (fun _ _ _ h => h) (some 15) rfl (Or.inl ⟨by rfl, ?_⟩) ?_
                          rotate_left 1
                          · intro w; go_simp; try with_reducible rfl
                          simp only [Act.put, List.setIfInBounds_toArray, List.set_cons_zero, List.set_cons_succ]
                          refine take_at (i := 11) (v := ?_) rfl (by kernel_rfl) (by kernel_rfl) (by kernel_rfl) (fun _ _ _ h => h) (some 16) rfl (Or.inl ⟨by rfl, ?_⟩) ?_
                          rotate_left 1
                          · intro w; go_simp; try with_reducible rfl
                          simp only [Act.put, List.setIfInBounds_toArray, List.set_cons_zero, List.set_cons_succ]
                          refine wpAny_done (by kernel_rfl) ?_ _
                          exact HSH _ _ _ _ _ _ _ _ HX
                        exact AllReady.nil
                      refine AllReady.cons rfl (fun KK hKK => ?_) ?_
                      · skip
                        go_simp
                        refine hKK _ _ ?_; clear hKK KK; try simp only [Act.put, List.setIfInBounds_toArray, List.set_cons_zero, List.set_cons_succ]
                        change wpAny _ _ _ _ _ _ _ (z1.alloc (.cells tlZ 27))
                        have hal := (Below.refl z1.heap.size z1).alloc (Nat.le_refl _) (.cells tlZ 27)
                        have HBz5 := Lib.hid ((HBz1.out).trans (hal.mono (HBz1.out).size)); have HP5 := Lib.hid (Blk.new z1 27 tlZ); have HQ := Lib.hid ((HBz1.out).size)
                        have HC5 := Lib.hid (HC1.out.below hal)
                        clear hal
                        generalize z1.alloc (.cells tlZ 27) = z5 at *
                        obtain ⟨p, hp⟩ : ∃ p, p = z1.heap.size := ⟨_, rfl⟩
                        rw [← hp] at HP5 HQ ⊢; clear hp
                        refine wpAny_ready (rs := [3]) (by kernel_rfl) (by simp) ?_
                        refine AllReady.cons rfl (fun KK hKK => ?_) ?_
                        · skip
                          refine step_call2 (by rfl) 22 (.tmp 89) (.tmp 90) _ (by rfl) (tlV A5 c5 u) (cmV (twM 10 h t (1 + z))) (by rfl) (by rfl) (fun _ _ => rfl) _ (do_as (w := z5) HC5.out (Hsm.out) (Hhs.out) ((G9.out.tb).below HBz5.out) (Ht3.out) (Hev.out) (Hc3.out)) (some 91) rfl ?_
                          rintro e z6 ⟨A6, c6, B6, e6, rfl, ho6, he6, hb⟩
                          refine ⟨_, rfl, ?_⟩
                          have HBz6 := Lib.hid ((HBz5.out).trans (hb.mono (HBz5.out).size)); have HO6 := Lib.hid (Own.base ho6 (HBz5.out).size); have HE6 := Lib.hid (OwnE.base he6 (HBz5.out).size)
                          have HP6 := Lib.hid (HP5.out.below hb HP5.out.lt)
                          clear hb ho6 he6; refine hKK _ _ ?_; clear hKK KK; simp only [Act.put, List.setIfInBounds_toArray, List.set_cons_zero, List.set_cons_succ]
                          refine take_at (i := 4) (v := ?_) rfl (by kernel_rfl) (by kernel_rfl) (by kernel_rfl) (fun _ _ _ h => h) (some 87) rfl (Or.inl ⟨by rfl, ?_⟩) ?_
                          rotate_left 1
                          · intro w; go_simp; try with_reducible rfl
                          simp only [Act.put, List.setIfInBounds_toArray, List.set_cons_zero, List.set_cons_succ]
                          refine take_at (i := 5) (v := ?_) rfl (by kernel_rfl) (by kernel_rfl) (by kernel_rfl) (fun _ _ _ h => h) (some 92) rfl (Or.inl ⟨by rfl, ?_⟩) ?_
                          rotate_left 1
                          · intro w; go_simp; try with_reducible rfl
                          simp only [Act.put, List.setIfInBounds_toArray, List.set_cons_zero, List.set_cons_succ]
                          refine take_at (i := 6) (v := ?_) rfl (by kernel_rfl) (by kernel_rfl) (by kernel_rfl) (fun _ _ _ h => h) (some 93) rfl (Or.inl ⟨by rfl, ?_⟩) ?_
                          rotate_left 1
                          · intro w; go_simp; try with_reducible rfl
                          simp only [Act.put, List.setIfInBounds_toArray, List.set_cons_zero, List.set_cons_succ]
                          refine take_at (i := 7) (v := ?_) rfl (by kernel_rfl) (by kernel_rfl) (by kernel_rfl) (fun _ _ _ h => h) (some 94) rfl (Or.inl ⟨by rfl, ?_⟩) ?_
                          rotate_left 1
                          · intro w; go_simp; try with_reducible rfl
                          simp only [Act.put, List.setIfInBounds_toArray, List.set_cons_zero, List.set_cons_succ]
                          refine wpAny_ready (rs := [9]) (by kernel_rfl) (by simp) ?_
                          refine AllReady.cons rfl (fun KK hKK => ?_) AllReady.nil
                          refine step_store (by rfl) 27 (.tmp 14) (.tmp 92) (by rfl) _ (tlC A6 c6 (t)) (by rfl) (by rfl) 27 tlZ HP6.out size27 rfl (tlC_one ..) none rfl ?_
                          intro v hbk hon
                          have HX := DoBox.made (A5 := A5) (c5 := c5) HBz6.out HQ.out HP6.out HO6.out HE6.out hbk hon
                          clear hbk hon; refine hKK _ _ ?_; clear hKK KK; simp only [Act.put]
                          refine take_at (i := 10) (v := ?_) rfl (by kernel_rfl) (by kernel_rfl) (by kernel_rfl) (fun _ _ _ h => h) (some 15) rfl (Or.inl ⟨by rfl, ?_⟩) ?_
                          rotate_left 1
                          · intro w; go_simp; try with_reducible rfl
                          simp only [Act.put, List.setIfInBounds_toArray, List.set_cons_zero, List.set_cons_succ]
                          refine take_at (i := 11) (v := ?_) rfl (by kernel_rfl) (by kernel_rfl) (by kernel_rfl) (fun _ _ _ h => h) (some 16) rfl (Or.inl ⟨by rfl, ?_⟩) ?_
                          rotate_left 1
                          · intro w; go_simp; try with_reducible rfl
                          simp only [Act.put, List.setIfInBounds_toArray, List.set_cons_zero, List.set_cons_succ]
                          refine wpAny_done (by kernel_rfl) ?_ _
                          exact HSH _ _ _ _ _ _ _ _ HX
                        exact AllReady.nil
                      exact AllReady.nil
                    refine AllReady.cons rfl (fun KK hKK => ?_) ?_
                    · skip
                      go_simp
                      refine hKK _ _ ?_; clear hKK KK; try simp only [Act.put, List.setIfInBounds_toArray, List.set_cons_zero, List.set_cons_succ]
                      change wpAny _ _ _ _ _ _ _ (z1.alloc (.cells tlZ 27))
                      have hal := (Below.refl z1.heap.size z1).alloc (Nat.le_refl _) (.cells tlZ 27)
                      have HBz8 := Lib.hid ((HBz1.out).trans (hal.mono (HBz1.out).size)); have HP8 := Lib.hid (Blk.new z1 27 tlZ); have HQ := Lib.hid ((HBz1.out).size)
                      have HC8 := Lib.hid (HC1.out.below hal)
                      clear hal
                      generalize z1.alloc (.cells tlZ 27) = z8 at *
                      obtain ⟨p, hp⟩ : ∃ p, p = z1.heap.size := ⟨_, rfl⟩
                      rw [← hp] at HP8 HQ ⊢; clear hp
                      refine wpAny_ready (rs := [2]) (by kernel_rfl) (by simp) ?_
                      refine AllReady.cons rfl (fun KK hKK => ?_) ?_
                      · skip
                        refine step_load (by rfl) 37 (.tmp 7) (by rfl) pm (by rfl) 37 (cmC (twM 10 h t (1 + z))) ((HCN.out).below HBz8.out (HCN.out).lt) _ Tryd.underlying37 rfl size37 (some 90) rfl ?_
                        refine hKK _ _ ?_; clear hKK KK; simp only [Act.put, List.setIfInBounds_toArray, List.set_cons_zero, List.set_cons_succ]
                        refine wpAny_ready (rs := [3]) (by kernel_rfl) (by simp) ?_
                        refine AllReady.cons rfl (fun KK hKK => ?_) ?_
                        · skip
                          refine step_call2 (by rfl) 22 (.tmp 89) (.tmp 90) _ (by rfl) (tlV A5 c5 u) (cmV (twM 10 h t (1 + z))) (by rfl) (by rfl) (fun _ _ => rfl) _ (do_as (w := z8) HC8.out (Hsm.out) (Hhs.out) ((G9.out.tb).below HBz8.out) (Ht3.out) (Hev.out) (Hc3.out)) (some 91) rfl ?_
                          rintro e z9 ⟨A6, c6, B6, e6, rfl, ho6, he6, hb⟩
                          refine ⟨_, rfl, ?_⟩
                          have HBz9 := Lib.hid ((HBz8.out).trans (hb.mono (HBz8.out).size)); have HO9 := Lib.hid (Own.base ho6 (HBz8.out).size); have HE9 := Lib.hid (OwnE.base he6 (HBz8.out).size)
                          have HP9 := Lib.hid (HP8.out.below hb HP8.out.lt)
                          clear hb ho6 he6; refine hKK _ _ ?_; clear hKK KK; simp only [Act.put, List.setIfInBounds_toArray, List.set_cons_zero, List.set_cons_succ]
                          refine take_at (i := 4) (v := ?_) rfl (by kernel_rfl) (by kernel_rfl) (by kernel_rfl) (fun _ _ _ h => h) (some 87) rfl (Or.inl ⟨by rfl, ?_⟩) ?_
                          rotate_left 1
                          · intro w; go_simp; try with_reducible rfl
                          simp only [Act.put, List.setIfInBounds_toArray, List.set_cons_zero, List.set_cons_succ]
                          refine take_at (i := 5) (v := ?_) rfl (by kernel_rfl) (by kernel_rfl) (by kernel_rfl) (fun _ _ _ h => h) (some 92) rfl (Or.inl ⟨by rfl, ?_⟩) ?_
                          rotate_left 1
                          · intro w; go_simp; try with_reducible rfl
                          simp only [Act.put, List.setIfInBounds_toArray, List.set_cons_zero, List.set_cons_succ]
                          refine take_at (i := 6) (v := ?_) rfl (by kernel_rfl) (by kernel_rfl) (by kernel_rfl) (fun _ _ _ h => h) (some 93) rfl (Or.inl ⟨by rfl, ?_⟩) ?_
                          rotate_left 1
                          · intro w; go_simp; try with_reducible rfl
                          simp only [Act.put, List.setIfInBounds_toArray, List.set_cons_zero, List.set_cons_succ]
                          refine take_at (i := 7) (v := ?_) rfl (by kernel_rfl) (by kernel_rfl) (by kernel_rfl) (fun _ _ _ h => h) (some 94) rfl (Or.inl ⟨by rfl, ?_⟩) ?_
                          rotate_left 1
                          · intro w; go_simp; try with_reducible rfl
                          simp only [Act.put, List.setIfInBounds_toArray, List.set_cons_zero, List.set_cons_succ]
                          refine wpAny_ready (rs := [9]) (by kernel_rfl) (by simp) ?_
                          refine AllReady.cons rfl (fun KK hKK => ?_) AllReady.nil
                          refine step_store (by rfl) 27 (.tmp 14) (.tmp 92) (by rfl) _ (tlC A6 c6 (t)) (by rfl) (by rfl) 27 tlZ HP9.out size27 rfl (tlC_one ..) none rfl ?_
                          intro v hbk hon
                          have HX := DoBox.made (A5 := A5) (c5 := c5) HBz9.out HQ.out HP9.out HO9.out HE9.out hbk hon
                          clear hbk hon; refine hKK _ _ ?_; clear hKK KK; simp only [Act.put]
                          refine take_at (i := 10) (v := ?_) rfl (by kernel_rfl) (by kernel_rfl) (by kernel_rfl) (fun _ _ _ h => h) (some 15) rfl (Or.inl ⟨by rfl, ?_⟩) ?_
                          rotate_left 1
                          · intro w; go_simp; try with_reducible rfl
                          simp only [Act.put, List.setIfInBounds_toArray, List.set_cons_zero, List.set_cons_succ]
                          refine take_at (i := 11) (v := ?_) rfl (by kernel_rfl) (by kernel_rfl) (by kernel_rfl) (fun _ _ _ h => h) (some 16) rfl (Or.inl ⟨by rfl, ?_⟩) ?_
                          rotate_left 1
                          · intro w; go_simp; try with_reducible rfl
                          simp only [Act.put, List.setIfInBounds_toArray, List.set_cons_zero, List.set_cons_succ]
                          refine wpAny_done (by kernel_rfl) ?_ _
                          exact HSH _ _ _ _ _ _ _ _ HX
                        exact AllReady.nil
                      exact AllReady.nil
                    exact AllReady.nil
                  refine AllReady.cons rfl (fun KK hKK => ?_) ?_
                  · skip
                    refine step_load (by rfl) 37 (.tmp 7) (by rfl) pm (by rfl) 37 (cmC (twM 10 h t (1 + z))) ((HCN.out).below HBz0.out (HCN.out).lt) _ Tryd.underlying37 rfl size37 (some 90) rfl ?_
                    refine hKK _ _ ?_; clear hKK KK; simp only [Act.put, List.setIfInBounds_toArray, List.set_cons_zero, List.set_cons_succ]
                    refine wpAny_ready (rs := [1, 8]) (by kernel_rfl) (by simp) ?_
                    refine AllReady.cons rfl (fun KK hKK => ?_) ?_
                    · skip
                      refine step_call1 (by rfl) 13 (.tmp 88) _ (by rfl) (tlV A2 c2 u) (by rfl) (fun _ _ => rfl) _ (copy_any A2 c2 u z0 ((HR92.out).below HBz0.out) (Nat.le_trans (Hsm.out).1 (by decide))) (some 89) rfl ?_
                      rintro e z11 ⟨A5, c5, rfl, ho5, hb⟩
                      refine ⟨_, rfl, ?_⟩
                      have HBz11 := Lib.hid ((HBz0.out).trans (hb.mono (HBz0.out).size)); have HC11 := Lib.hid ho5.rgs
                      clear hb ho5; refine hKK _ _ ?_; clear hKK KK; simp only [Act.put, List.setIfInBounds_toArray, List.set_cons_zero, List.set_cons_succ]
                      refine wpAny_ready (rs := [3, 8]) (by kernel_rfl) (by simp) ?_
                      refine AllReady.cons rfl (fun KK hKK => ?_) ?_
                      · skip
                        refine step_call2 (by rfl) 22 (.tmp 89) (.tmp 90) _ (by rfl) (tlV A5 c5 u) (cmV (twM 10 h t (1 + z))) (by rfl) (by rfl) (fun _ _ => rfl) _ (do_as (w := z11) HC11.out (Hsm.out) (Hhs.out) ((G9.out.tb).below HBz11.out) (Ht3.out) (Hev.out) (Hc3.out)) (some 91) rfl ?_
                        rintro e z12 ⟨A6, c6, B6, e6, rfl, ho6, he6, hb⟩
                        refine ⟨_, rfl, ?_⟩
                        have HBz12 := Lib.hid ((HBz11.out).trans (hb.mono (HBz11.out).size)); have HO12 := Lib.hid (Own.base ho6 (HBz11.out).size); have HE12 := Lib.hid (OwnE.base he6 (HBz11.out).size)
                        clear hb ho6 he6; refine hKK _ _ ?_; clear hKK KK; simp only [Act.put, List.setIfInBounds_toArray, List.set_cons_zero, List.set_cons_succ]
                        refine take_at (i := 4) (v := ?_) rfl (by kernel_rfl) (by kernel_rfl) (by kernel_rfl) (fun _ _ _ h => h) (some 87) rfl (Or.inl ⟨by rfl, ?_⟩) ?_
                        rotate_left 1
                        · intro w; go_simp; try with_reducible rfl
                        simp only [Act.put, List.setIfInBounds_toArray, List.set_cons_zero, List.set_cons_succ]
                        refine take_at (i := 5) (v := ?_) rfl (by kernel_rfl) (by kernel_rfl) (by kernel_rfl) (fun _ _ _ h => h) (some 92) rfl (Or.inl ⟨by rfl, ?_⟩) ?_
                        rotate_left 1
                        · intro w; go_simp; try with_reducible rfl
                        simp only [Act.put, List.setIfInBounds_toArray, List.set_cons_zero, List.set_cons_succ]
                        refine take_at (i := 6) (v := ?_) rfl (by kernel_rfl) (by kernel_rfl) (by kernel_rfl) (fun _ _ _ h => h) (some 93) rfl (Or.inl ⟨by rfl, ?_⟩) ?_
                        rotate_left 1
                        · intro w; go_simp; try with_reducible rfl
                        simp only [Act.put, List.setIfInBounds_toArray, List.set_cons_zero, List.set_cons_succ]
                        refine take_at (i := 7) (v := ?_) rfl (by kernel_rfl) (by kernel_rfl) (by kernel_rfl) (fun _ _ _ h => h) (some 94) rfl (Or.inl ⟨by rfl, ?_⟩) ?_
                        rotate_left 1
                        · intro w; go_simp; try with_reducible rfl
                        simp only [Act.put, List.setIfInBounds_toArray, List.set_cons_zero, List.set_cons_succ]
                        refine wpAny_ready (rs := [8]) (by kernel_rfl) (by simp) ?_
                        refine AllReady.cons rfl (fun KK hKK => ?_) ?_
                        · skip
                          go_simp
                          refine hKK _ _ ?_; clear hKK KK; try simp only [Act.put, List.setIfInBounds_toArray, List.set_cons_zero, List.set_cons_succ]
                          change wpAny _ _ _ _ _ _ _ (z12.alloc (.cells tlZ 27))
                          have hal := (Below.refl z12.heap.size z12).alloc (Nat.le_refl _) (.cells tlZ 27)
                          have HBz13 := Lib.hid ((HBz12.out).trans (hal.mono (HBz12.out).size)); have HP13 := Lib.hid (Blk.new z12 27 tlZ); have HQ := Lib.hid ((HBz12.out).size)
                          have HO13 := Lib.hid (HO12.out.below hal); have HE13 := Lib.hid (HE12.out.below hal)
                          clear hal
                          generalize z12.alloc (.cells tlZ 27) = z13 at *
                          obtain ⟨p, hp⟩ : ∃ p, p = z12.heap.size := ⟨_, rfl⟩
                          rw [← hp] at HP13 HQ ⊢; clear hp
                          refine wpAny_ready (rs := [9]) (by kernel_rfl) (by simp) ?_
                          refine AllReady.cons rfl (fun KK hKK => ?_) AllReady.nil
                          refine step_store (by rfl) 27 (.tmp 14) (.tmp 92) (by rfl) _ (tlC A6 c6 (t)) (by rfl) (by rfl) 27 tlZ HP13.out size27 rfl (tlC_one ..) none rfl ?_
                          intro v hbk hon
                          have HX := DoBox.made (A5 := A5) (c5 := c5) HBz13.out HQ.out HP13.out HO13.out HE13.out hbk hon
                          clear hbk hon; refine hKK _ _ ?_; clear hKK KK; simp only [Act.put]
                          refine take_at (i := 10) (v := ?_) rfl (by kernel_rfl) (by kernel_rfl) (by kernel_rfl) (fun _ _ _ h => h) (some 15) rfl (Or.inl ⟨by rfl, ?_⟩) ?_
                          rotate_left 1
                          · intro w; go_simp; try with_reducible rfl
                          simp only [Act.put, List.setIfInBounds_toArray, List.set_cons_zero, List.set_cons_succ]
                          refine take_at (i := 11) (v := ?_) rfl (by kernel_rfl) (by kernel_rfl) (by kernel_rfl) (fun _ _ _ h => h) (some 16) rfl (Or.inl ⟨by rfl, ?_⟩) ?_
                          rotate_left 1
                          · intro w; go_simp; try with_reducible rfl
                          simp only [Act.put, List.setIfInBounds_toArray, List.set_cons_zero, List.set_cons_succ]
                          refine wpAny_done (by kernel_rfl) ?_ _
                          exact HSH _ _ _ _ _ _ _ _ HX
                        exact AllReady.nil
                      refine AllReady.cons rfl (fun KK hKK => ?_) ?_
                      · skip
                        go_simp
                        refine hKK _ _ ?_; clear hKK KK; try simp only [Act.put, List.setIfInBounds_toArray, List.set_cons_zero, List.set_cons_succ]
                        change wpAny _ _ _ _ _ _ _ (z11.alloc (.cells tlZ 27))
                        have hal := (Below.refl z11.heap.size z11).alloc (Nat.le_refl _) (.cells tlZ 27)
                        have HBz15 := Lib.hid ((HBz11.out).trans (hal.mono (HBz11.out).size)); have HP15 := Lib.hid (Blk.new z11 27 tlZ); have HQ := Lib.hid ((HBz11.out).size)
                        have HC15 := Lib.hid (HC11.out.below hal)
                        clear hal
                        generalize z11.alloc (.cells tlZ 27) = z15 at *
                        obtain ⟨p, hp⟩ : ∃ p, p = z11.heap.size := ⟨_, rfl⟩
                        rw [← hp] at HP15 HQ ⊢; clear hp
                        refine wpAny_ready (rs := [3]) (by kernel_rfl) (by simp) ?_
                        refine AllReady.cons rfl (fun KK hKK => ?_) ?_
                        · skip
                          refine step_call2 (by rfl) 22 (.tmp 89) (.tmp 90) _ (by rfl) (tlV A5 c5 u) (cmV (twM 10 h t (1 + z))) (by rfl) (by rfl) (fun _ _ => rfl) _ (do_as (w := z15) HC15.out (Hsm.out) (Hhs.out) ((G9.out.tb).below HBz15.out) (Ht3.out) (Hev.out) (Hc3.out)) (some 91) rfl ?_
                          rintro e z16 ⟨A6, c6, B6, e6, rfl, ho6, he6, hb⟩
                          refine ⟨_, rfl, ?_⟩
                          have HBz16 := Lib.hid ((HBz15.out).trans (hb.mono (HBz15.out).size)); have HO16 := Lib.hid (Own.base ho6 (HBz15.out).size); have HE16 := Lib.hid (OwnE.base he6 (HBz15.out).size)
                          have HP16 := Lib.hid (HP15.out.below hb HP15.out.lt)
                          clear hb ho6 he6; refine hKK _ _ ?_; clear hKK KK; simp only [Act.put, List.setIfInBounds_toArray, List.set_cons_zero, List.set_cons_succ]
                          refine take_at (i := 4) (v := ?_) rfl (by kernel_rfl) (by kernel_rfl) (by kernel_rfl) (fun _ _ _ h => h) (some 87) rfl (Or.inl ⟨by rfl, ?_⟩) ?_
                          rotate_left 1
                          · intro w; go_simp; try with_reducible rfl
                          simp only [Act.put, List.setIfInBounds_toArray, List.set_cons_zero, List.set_cons_succ]
                          refine take_at (i := 5) (v := ?_) rfl (by kernel_rfl) (by kernel_rfl) (by kernel_rfl) (fun _ _ _ h => h) (some 92) rfl (Or.inl ⟨by rfl, ?_⟩) ?_
                          rotate_left 1
                          · intro w; go_simp; try with_reducible rfl
                          simp only [Act.put, List.setIfInBounds_toArray, List.set_cons_zero, List.set_cons_succ]
                          refine take_at (i := 6) (v := ?_) rfl (by kernel_rfl) (by kernel_rfl) (by kernel_rfl) (fun _ _ _ h => h) (some 93) rfl (Or.inl ⟨by rfl, ?_⟩) ?_
                          rotate_left 1
                          · intro w; go_simp; try with_reducible rfl
                          simp only [Act.put, List.setIfInBounds_toArray, List.set_cons_zero, List.set_cons_succ]
                          refine take_at (i := 7) (v := ?_) rfl (by kernel_rfl) (by kernel_rfl) (by kernel_rfl) (fun _ _ _ h => h) (some 94) rfl (Or.inl ⟨by rfl, ?_⟩) ?_
                          rotate_left 1
                          · intro w; go_simp; try with_reducible rfl
                          simp only [Act.put, List.setIfInBounds_toArray, List.set_cons_zero, List.set_cons_succ]
                          refine wpAny_ready (rs := [9]) (by kernel_rfl) (by simp) ?_
                          refine AllReady.cons rfl (fun KK hKK => ?_) AllReady.nil
                          refine step_store (by rfl) 27 (.tmp 14) (.tmp 92) (by rfl) _ (tlC A6 c6 (t)) (by rfl) (by rfl) 27 tlZ HP16.out size27 rfl (tlC_one ..) none rfl ?_
                          intro v hbk hon
                          have HX := DoBox.made (A5 := A5) (c5 := c5) HBz16.out HQ.out HP16.out HO16.out HE16.out hbk hon
                          clear hbk hon; refine hKK _ _ ?_; clear hKK KK; simp only [Act.put]
                          refine take_at (i := 10) (v := ?_) rfl (by kernel_rfl) (by kernel_rfl) (by kernel_rfl) (fun _ _ _ h => h) (some 15) rfl (Or.inl ⟨by rfl, ?_⟩) ?_
                          rotate_left 1
                          · intro w; go_simp; try with_reducible rfl
                          simp only [Act.put, List.setIfInBounds_toArray, List.set_cons_zero, List.set_cons_succ]
                          refine take_at (i := 11) (v := ?_) rfl (by kernel_rfl) (by kernel_rfl) (by kernel_rfl) (fun _ _ _ h => h) (some 16) rfl (Or.inl ⟨by rfl, ?_⟩) ?_
                          rotate_left 1
                          · intro w; go_simp; try with_reducible rfl
                          simp only [Act.put, List.setIfInBounds_toArray, List.set_cons_zero, List.set_cons_succ]
                          refine wpAny_done (by kernel_rfl) ?_ _
                          exact HSH _ _ _ _ _ _ _ _ HX
                        exact AllReady.nil
                      exact AllReady.nil
                    refine AllReady.cons rfl (fun KK hKK => ?_) ?_
                    · skip
                      go_simp
                      refine hKK _ _ ?_; clear hKK KK; try simp only [Act.put, List.setIfInBounds_toArray, List.set_cons_zero, List.set_cons_succ]
                      change wpAny _ _ _ _ _ _ _ (z0.alloc (.cells tlZ 27))
                      have hal := (Below.refl z0.heap.size z0).alloc (Nat.le_refl _) (.cells tlZ 27)
                      have HBz18 := Lib.hid ((HBz0.out).trans (hal.mono (HBz0.out).size)); have HP18 := Lib.hid (Blk.new z0 27 tlZ); have HQ := Lib.hid ((HBz0.out).size)
                      clear hal
                      generalize z0.alloc (.cells tlZ 27) = z18 at *
                      obtain ⟨p, hp⟩ : ∃ p, p = z0.heap.size := ⟨_, rfl⟩
                      rw [← hp] at HP18 HQ ⊢; clear hp
                      refine wpAny_ready (rs := [1]) (by kernel_rfl) (by simp) ?_
                      refine AllReady.cons rfl (fun KK hKK => ?_) ?_
                      · skip
                        refine step_call1 (by rfl) 13 (.tmp 88) _ (by rfl) (tlV A2 c2 u) (by rfl) (fun _ _ => rfl) _ (copy_any A2 c2 u z18 ((HR92.out).below HBz18.out) (Nat.le_trans (Hsm.out).1 (by decide))) (some 89) rfl ?_
                        rintro e z19 ⟨A5, c5, rfl, ho5, hb⟩
                        refine ⟨_, rfl, ?_⟩
                        have HBz19 := Lib.hid ((HBz18.out).trans (hb.mono (HBz18.out).size)); have HC19 := Lib.hid ho5.rgs
                        have HP19 := Lib.hid (HP18.out.below hb HP18.out.lt)
                        clear hb ho5; refine hKK _ _ ?_; clear hKK KK; simp only [Act.put, List.setIfInBounds_toArray, List.set_cons_zero, List.set_cons_succ]
                        refine wpAny_ready (rs := [3]) (by kernel_rfl) (by simp) ?_
                        refine AllReady.cons rfl (fun KK hKK => ?_) ?_
                        · skip
                          refine step_call2 (by rfl) 22 (.tmp 89) (.tmp 90) _ (by rfl) (tlV A5 c5 u) (cmV (twM 10 h t (1 + z))) (by rfl) (by rfl) (fun _ _ => rfl) _ (do_as (w := z19) HC19.out (Hsm.out) (Hhs.out) ((G9.out.tb).below HBz19.out) (Ht3.out) (Hev.out) (Hc3.out)) (some 91) rfl ?_
                          rintro e z20 ⟨A6, c6, B6, e6, rfl, ho6, he6, hb⟩
                          refine ⟨_, rfl, ?_⟩
                          have HBz20 := Lib.hid ((HBz19.out).trans (hb.mono (HBz19.out).size)); have HO20 := Lib.hid (Own.base ho6 (HBz19.out).size); have HE20 := Lib.hid (OwnE.base he6 (HBz19.out).size)
                          have HP20 := Lib.hid (HP19.out.below hb HP19.out.lt)
                          clear hb ho6 he6; refine hKK _ _ ?_; clear hKK KK; simp only [Act.put, List.setIfInBounds_toArray, List.set_cons_zero, List.set_cons_succ]
                          refine take_at (i := 4) (v := ?_) rfl (by kernel_rfl) (by kernel_rfl) (by kernel_rfl) (fun _ _ _ h => h) (some 87) rfl (Or.inl ⟨by rfl, ?_⟩) ?_
                          rotate_left 1
                          · intro w; go_simp; try with_reducible rfl
                          simp only [Act.put, List.setIfInBounds_toArray, List.set_cons_zero, List.set_cons_succ]
                          refine take_at (i := 5) (v := ?_) rfl (by kernel_rfl) (by kernel_rfl) (by kernel_rfl) (fun _ _ _ h => h) (some 92) rfl (Or.inl ⟨by rfl, ?_⟩) ?_
                          rotate_left 1
                          · intro w; go_simp; try with_reducible rfl
                          simp only [Act.put, List.setIfInBounds_toArray, List.set_cons_zero, List.set_cons_succ]
                          refine take_at (i := 6) (v := ?_) rfl (by kernel_rfl) (by kernel_rfl) (by kernel_rfl) (fun _ _ _ h => h) (some 93) rfl (Or.inl ⟨by rfl, ?_⟩) ?_
                          rotate_left 1
                          · intro w; go_simp; try with_reducible rfl
                          simp only [Act.put, List.setIfInBounds_toArray, List.set_cons_zero, List.set_cons_succ]
                          refine take_at (i := 7) (v := ?_) rfl (by kernel_rfl) (by kernel_rfl) (by kernel_rfl) (fun _ _ _ h => h) (some 94) rfl (Or.inl ⟨by rfl, ?_⟩) ?_
                          rotate_left 1
                          · intro w; go_simp; try with_reducible rfl
                          simp only [Act.put, List.setIfInBounds_toArray, List.set_cons_zero, List.set_cons_succ]
                          refine wpAny_ready (rs := [9]) (by kernel_rfl) (by simp) ?_
                          refine AllReady.cons rfl (fun KK hKK => ?_) AllReady.nil
                          refine step_store (by rfl) 27 (.tmp 14) (.tmp 92) (by rfl) _ (tlC A6 c6 (t)) (by rfl) (by rfl) 27 tlZ HP20.out size27 rfl (tlC_one ..) none rfl ?_
                          intro v hbk hon
                          have HX := DoBox.made (A5 := A5) (c5 := c5) HBz20.out HQ.out HP20.out HO20.out HE20.out hbk hon
                          clear hbk hon; refine hKK _ _ ?_; clear hKK KK; simp only [Act.put]
                          refine take_at (i := 10) (v := ?_) rfl (by kernel_rfl) (by kernel_rfl) (by kernel_rfl) (fun _ _ _ h => h) (some 15) rfl (Or.inl ⟨by rfl, ?_⟩) ?_
                          rotate_left 1
                          · intro w; go_simp; try with_reducible rfl
                          simp only [Act.put, List.setIfInBounds_toArray, List.set_cons_zero, List.set_cons_succ]
                          refine take_at (i := 11) (v := ?_) rfl (by kernel_rfl) (by kernel_rfl) (by kernel_rfl) (fun _ _ _ h => h) (some 16) rfl (Or.inl ⟨by rfl, ?_⟩) ?_
                          rotate_left 1
                          · intro w; go_simp; try with_reducible rfl
                          simp only [Act.put, List.setIfInBounds_toArray, List.set_cons_zero, List.set_cons_succ]
                          refine wpAny_done (by kernel_rfl) ?_ _
                          exact HSH _ _ _ _ _ _ _ _ HX
                        exact AllReady.nil
                      exact AllReady.nil
                    exact AllReady.nil
                  refine AllReady.cons rfl (fun KK hKK => ?_) ?_
                  · skip
                    go_simp
                    refine hKK _ _ ?_; clear hKK KK; try simp only [Act.put, List.setIfInBounds_toArray, List.set_cons_zero, List.set_cons_succ]
                    change wpAny _ _ _ _ _ _ _ (z0.alloc (.cells tlZ 27))
                    have hal := (Below.refl z0.heap.size z0).alloc (Nat.le_refl _) (.cells tlZ 27)
                    have HBz22 := Lib.hid ((HBz0.out).trans (hal.mono (HBz0.out).size)); have HP22 := Lib.hid (Blk.new z0 27 tlZ); have HQ := Lib.hid ((HBz0.out).size)
                    clear hal
                    generalize z0.alloc (.cells tlZ 27) = z22 at *
                    obtain ⟨p, hp⟩ : ∃ p, p = z0.heap.size := ⟨_, rfl⟩
                    rw [← hp] at HP22 HQ ⊢; clear hp
                    refine wpAny_ready (rs := [1, 2]) (by kernel_rfl) (by simp) ?_
                    refine AllReady.cons rfl (fun KK hKK => ?_) ?_
                    · skip
                      refine step_call1 (by rfl) 13 (.tmp 88) _ (by rfl) (tlV A2 c2 u) (by rfl) (fun _ _ => rfl) _ (copy_any A2 c2 u z22 ((HR92.out).below HBz22.out) (Nat.le_trans (Hsm.out).1 (by decide))) (some 89) rfl ?_
                      rintro e z23 ⟨A5, c5, rfl, ho5, hb⟩
                      refine ⟨_, rfl, ?_⟩
                      have HBz23 := Lib.hid ((HBz22.out).trans (hb.mono (HBz22.out).size)); have HC23 := Lib.hid ho5.rgs
                      have HP23 := Lib.hid (HP22.out.below hb HP22.out.lt)
                      clear hb ho5; refine hKK _ _ ?_; clear hKK KK; simp only [Act.put, List.setIfInBounds_toArray, List.set_cons_zero, List.set_cons_succ]
                      refine wpAny_ready (rs := [2]) (by kernel_rfl) (by simp) ?_
                      refine AllReady.cons rfl (fun KK hKK => ?_) ?_
                      · skip
                        refine step_load (by rfl) 37 (.tmp 7) (by rfl) pm (by rfl) 37 (cmC (twM 10 h t (1 + z))) ((HCN.out).below HBz23.out (HCN.out).lt) _ Tryd.underlying37 rfl size37 (some 90) rfl ?_
                        refine hKK _ _ ?_; clear hKK KK; simp only [Act.put, List.setIfInBounds_toArray, List.set_cons_zero, List.set_cons_succ]
                        refine wpAny_ready (rs := [3]) (by kernel_rfl) (by simp) ?_
                        refine AllReady.cons rfl (fun KK hKK => ?_) ?_
                        · skip
                          refine step_call2 (by rfl) 22 (.tmp 89) (.tmp 90) _ (by rfl) (tlV A5 c5 u) (cmV (twM 10 h t (1 + z))) (by rfl) (by rfl) (fun _ _ => rfl) _ (do_as (w := z23) HC23.out (Hsm.out) (Hhs.out) ((G9.out.tb).below HBz23.out) (Ht3.out) (Hev.out) (Hc3.out)) (some 91) rfl ?_
                          rintro e z24 ⟨A6, c6, B6, e6, rfl, ho6, he6, hb⟩
                          refine ⟨_, rfl, ?_⟩
                          have HBz24 := Lib.hid ((HBz23.out).trans (hb.mono (HBz23.out).size)); have HO24 := Lib.hid (Own.base ho6 (HBz23.out).size); have HE24 := Lib.hid (OwnE.base he6 (HBz23.out).size)
                          have HP24 := Lib.hid (HP23.out.below hb HP23.out.lt)
                          clear hb ho6 he6; refine hKK _ _ ?_; clear hKK KK; simp only [Act.put, List.setIfInBounds_toArray, List.set_cons_zero, List.set_cons_succ]
                          refine take_at (i := 4) (v := ?_) rfl (by kernel_rfl) (by kernel_rfl) (by kernel_rfl) (fun _ _ _ h => h) (some 87) rfl (Or.inl ⟨by rfl, ?_⟩) ?_
                          rotate_left 1
                          · intro w; go_simp; try with_reducible rfl
                          simp only [Act.put, List.setIfInBounds_toArray, List.set_cons_zero, List.set_cons_succ]
                          refine take_at (i := 5) (v := ?_) rfl (by kernel_rfl) (by kernel_rfl) (by kernel_rfl) (fun _ _ _ h => h) (some 92) rfl (Or.inl ⟨by rfl, ?_⟩) ?_
                          rotate_left 1
                          · intro w; go_simp; try with_reducible rfl
                          simp only [Act.put, List.setIfInBounds_toArray, List.set_cons_zero, List.set_cons_succ]
                          refine take_at (i := 6) (v := ?_) rfl (by kernel_rfl) (by kernel_rfl) (by kernel_rfl) (fun _ _ _ h => h) (some 93) rfl (Or.inl ⟨by rfl, ?_⟩) ?_
                          rotate_left 1
                          · intro w; go_simp; try with_reducible rfl
                          simp only [Act.put, List.setIfInBounds_toArray, List.set_cons_zero, List.set_cons_succ]
                          refine take_at (i := 7) (v := ?_) rfl (by kernel_rfl) (by kernel_rfl) (by kernel_rfl) (fun _ _ _ h => h) (some 94) rfl (Or.inl ⟨by rfl, ?_⟩) ?_
                          rotate_left 1
                          · intro w; go_simp; try with_reducible rfl
                          simp only [Act.put, List.setIfInBounds_toArray, List.set_cons_zero, List.set_cons_succ]
                          refine wpAny_ready (rs := [9]) (by kernel_rfl) (by simp) ?_
                          refine AllReady.cons rfl (fun KK hKK => ?_) AllReady.nil
                          refine step_store (by rfl) 27 (.tmp 14) (.tmp 92) (by rfl) _ (tlC A6 c6 (t)) (by rfl) (by rfl) 27 tlZ HP24.out size27 rfl (tlC_one ..) none rfl ?_
                          intro v hbk hon
                          have HX := DoBox.made (A5 := A5) (c5 := c5) HBz24.out HQ.out HP24.out HO24.out HE24.out hbk hon
                          clear hbk hon; refine hKK _ _ ?_; clear hKK KK; simp only [Act.put]
                          refine take_at (i := 10) (v := ?_) rfl (by kernel_rfl) (by kernel_rfl) (by kernel_rfl) (fun _ _ _ h => h) (some 15) rfl (Or.inl ⟨by rfl, ?_⟩) ?_
                          rotate_left 1
                          · intro w; go_simp; try with_reducible rfl
                          simp only [Act.put, List.setIfInBounds_toArray, List.set_cons_zero, List.set_cons_succ]
                          refine take_at (i := 11) (v := ?_) rfl (by kernel_rfl) (by kernel_rfl) (by kernel_rfl) (fun _ _ _ h => h) (some 16) rfl (Or.inl ⟨by rfl, ?_⟩) ?_
                          rotate_left 1
                          · intro w; go_simp; try with_reducible rfl
                          simp only [Act.put, List.setIfInBounds_toArray, List.set_cons_zero, List.set_cons_succ]
                          refine wpAny_done (by kernel_rfl) ?_ _
                          exact HSH _ _ _ _ _ _ _ _ HX
                        exact AllReady.nil
                      exact AllReady.nil
                    refine AllReady.cons rfl (fun KK hKK => ?_) ?_
                    · skip
                      refine step_load (by rfl) 37 (.tmp 7) (by rfl) pm (by rfl) 37 (cmC (twM 10 h t (1 + z))) ((HCN.out).below HBz22.out (HCN.out).lt) _ Tryd.underlying37 rfl size37 (some 90) rfl ?_
                      refine hKK _ _ ?_; clear hKK KK; simp only [Act.put, List.setIfInBounds_toArray, List.set_cons_zero, List.set_cons_succ]
                      refine wpAny_ready (rs := [1]) (by kernel_rfl) (by simp) ?_
                      refine AllReady.cons rfl (fun KK hKK => ?_) ?_
                      · skip
                        refine step_call1 (by rfl) 13 (.tmp 88) _ (by rfl) (tlV A2 c2 u) (by rfl) (fun _ _ => rfl) _ (copy_any A2 c2 u z22 ((HR92.out).below HBz22.out) (Nat.le_trans (Hsm.out).1 (by decide))) (some 89) rfl ?_
                        rintro e z26 ⟨A5, c5, rfl, ho5, hb⟩
                        refine ⟨_, rfl, ?_⟩
                        have HBz26 := Lib.hid ((HBz22.out).trans (hb.mono (HBz22.out).size)); have HC26 := Lib.hid ho5.rgs
                        have HP26 := Lib.hid (HP22.out.below hb HP22.out.lt)
                        clear hb ho5; refine hKK _ _ ?_; clear hKK KK; simp only [Act.put, List.setIfInBounds_toArray, List.set_cons_zero, List.set_cons_succ]
                        refine wpAny_ready (rs := [3]) (by kernel_rfl) (by simp) ?_
                        refine AllReady.cons rfl (fun KK hKK => ?_) ?_
                        · skip
                          refine step_call2 (by rfl) 22 (.tmp 89) (.tmp 90) _ (by rfl) (tlV A5 c5 u) (cmV (twM 10 h t (1 + z))) (by rfl) (by rfl) (fun _ _ => rfl) _ (do_as (w := z26) HC26.out (Hsm.out) (Hhs.out) ((G9.out.tb).below HBz26.out) (Ht3.out) (Hev.out) (Hc3.out)) (some 91) rfl ?_
                          rintro e z27 ⟨A6, c6, B6, e6, rfl, ho6, he6, hb⟩
                          refine ⟨_, rfl, ?_⟩
                          have HBz27 := Lib.hid ((HBz26.out).trans (hb.mono (HBz26.out).size)); have HO27 := Lib.hid (Own.base ho6 (HBz26.out).size); have HE27 := Lib.hid (OwnE.base he6 (HBz26.out).size)
                          have HP27 := Lib.hid (HP26.out.below hb HP26.out.lt)
                          clear hb ho6 he6; refine hKK _ _ ?_; clear hKK KK; simp only [Act.put, List.setIfInBounds_toArray, List.set_cons_zero, List.set_cons_succ]
                          refine take_at (i := 4) (v := ?_) rfl (by kernel_rfl) (by kernel_rfl) (by kernel_rfl) (fun _ _ _ h => h) (some 87) rfl (Or.inl ⟨by rfl, ?_⟩) ?_
                          rotate_left 1
                          · intro w; go_simp; try with_reducible rfl
                          simp only [Act.put, List.setIfInBounds_toArray, List.set_cons_zero, List.set_cons_succ]
                          refine take_at (i := 5) (v := ?_) rfl (by kernel_rfl) (by kernel_rfl) (by kernel_rfl) (fun _ _ _ h => h) (some 92) rfl (Or.inl ⟨by rfl, ?_⟩) ?_
                          rotate_left 1
                          · intro w; go_simp; try with_reducible rfl
                          simp only [Act.put, List.setIfInBounds_toArray, List.set_cons_zero, List.set_cons_succ]
                          refine take_at (i := 6) (v := ?_) rfl (by kernel_rfl) (by kernel_rfl) (by kernel_rfl) (fun _ _ _ h => h) (some 93) rfl (Or.inl ⟨by rfl, ?_⟩) ?_
                          rotate_left 1
                          · intro w; go_simp; try with_reducible rfl
                          simp only [Act.put, List.setIfInBounds_toArray, List.set_cons_zero, List.set_cons_succ]
                          refine take_at (i := 7) (v := ?_) rfl (by kernel_rfl) (by kernel_rfl) (by kernel_rfl) (fun _ _ _ h => h) (some 94) rfl (Or.inl ⟨by rfl, ?_⟩) ?_
                          rotate_left 1
                          · intro w; go_simp; try with_reducible rfl
                          simp only [Act.put, List.setIfInBounds_toArray, List.set_cons_zero, List.set_cons_succ]
                          refine wpAny_ready (rs := [9]) (by kernel_rfl) (by simp) ?_
                          refine AllReady.cons rfl (fun KK hKK => ?_) AllReady.nil
                          refine step_store (by rfl) 27 (.tmp 14) (.tmp 92) (by rfl) _ (tlC A6 c6 (t)) (by rfl) (by rfl) 27 tlZ HP27.out size27 rfl (tlC_one ..) none rfl ?_
                          intro v hbk hon
                          have HX := DoBox.made (A5 := A5) (c5 := c5) HBz27.out HQ.out HP27.out HO27.out HE27.out hbk hon
                          clear hbk hon; refine hKK _ _ ?_; clear hKK KK; simp only [Act.put]
                          refine take_at (i := 10) (v := ?_) rfl (by kernel_rfl) (by kernel_rfl) (by kernel_rfl) (fun _ _ _ h => h) (some 15) rfl (Or.inl ⟨by rfl, ?_⟩) ?_
                          rotate_left 1
                          · intro w; go_simp; try with_reducible rfl
                          simp only [Act.put, List.setIfInBounds_toArray, List.set_cons_zero, List.set_cons_succ]
                          refine take_at (i := 11) (v := ?_) rfl (by kernel_rfl) (by kernel_rfl) (by kernel_rfl) (fun _ _ _ h => h) (some 16) rfl (Or.inl ⟨by rfl, ?_⟩) ?_
                          rotate_left 1
                          · intro w; go_simp; try with_reducible rfl
                          simp only [Act.put, List.setIfInBounds_toArray, List.set_cons_zero, List.set_cons_succ]
                          refine wpAny_done (by kernel_rfl) ?_ _
                          exact HSH _ _ _ _ _ _ _ _ HX
                        exact AllReady.nil
                      exact AllReady.nil
                    exact AllReady.nil
                  exact AllReady.nil
                refine AllReady.cons rfl (fun KK hKK => ?_) ?_
                · skip
                  refine step_load (by rfl) 37 (.tmp 7) (by rfl) pm (by rfl) 37 (cmC (twM 10 h t (1 + z))) ((HCN.out).below HBz0.out (HCN.out).lt) _ Tryd.underlying37 rfl size37 (some 90) rfl ?_
                  refine hKK _ _ ?_; clear hKK KK; simp only [Act.put, List.setIfInBounds_toArray, List.set_cons_zero, List.set_cons_succ]
                  refine wpAny_ready (rs := [0, 8]) (by kernel_rfl) (by simp) ?_
                  refine AllReady.cons rfl (fun KK hKK => ?_) ?_
                  · skip
                    refine step_load (by rfl) 27 (.tmp 11) (by rfl) p2 (by rfl) 27 (tlC A2 c2 u) ((HB92.out).below HBz0.out (HB92.out).lt) _ Tryd.underlying27 rfl size27 (some 88) rfl ?_
                    refine hKK _ _ ?_; clear hKK KK; simp only [Act.put, List.setIfInBounds_toArray, List.set_cons_zero, List.set_cons_succ]
                    refine wpAny_ready (rs := [1, 8]) (by kernel_rfl) (by simp) ?_
                    refine AllReady.cons rfl (fun KK hKK => ?_) ?_
                    · skip
                      refine step_call1 (by rfl) 13 (.tmp 88) _ (by rfl) (tlV A2 c2 u) (by rfl) (fun _ _ => rfl) _ (copy_any A2 c2 u z0 ((HR92.out).below HBz0.out) (Nat.le_trans (Hsm.out).1 (by decide))) (some 89) rfl ?_
                      rintro e z29 ⟨A5, c5, rfl, ho5, hb⟩
                      refine ⟨_, rfl, ?_⟩
                      have HBz29 := Lib.hid ((HBz0.out).trans (hb.mono (HBz0.out).size)); have HC29 := Lib.hid ho5.rgs
                      clear hb ho5; refine hKK _ _ ?_; clear hKK KK; simp only [Act.put, List.setIfInBounds_toArray, List.set_cons_zero, List.set_cons_succ]
                      refine wpAny_ready (rs := [3, 8]) (by kernel_rfl) (by simp) ?_
                      refine AllReady.cons rfl (fun KK hKK => ?_) ?_
                      · skip
                        refine step_call2 (by rfl) 22 (.tmp 89) (.tmp 90) _ (by rfl) (tlV A5 c5 u) (cmV (twM 10 h t (1 + z))) (by rfl) (by rfl) (fun _ _ => rfl) _ (do_as (w := z29) HC29.out (Hsm.out) (Hhs.out) ((G9.out.tb).below HBz29.out) (Ht3.out) (Hev.out) (Hc3.out)) (some 91) rfl ?_
                        rintro e z30 ⟨A6, c6, B6, e6, rfl, ho6, he6, hb⟩
                        refine ⟨_, rfl, ?_⟩
                        have HBz30 := Lib.hid ((HBz29.out).trans (hb.mono (HBz29.out).size)); have HO30 := Lib.hid (Own.base ho6 (HBz29.out).size); have HE30 := Lib.hid (OwnE.base he6 (HBz29.out).size)
                        clear hb ho6 he6; refine hKK _ _ ?_; clear hKK KK; simp only [Act.put, List.setIfInBounds_toArray, List.set_cons_zero, List.set_cons_succ]
                        refine take_at (i := 4) (v := ?_) rfl (by kernel_rfl) (by kernel_rfl) (by kernel_rfl) (fun _ _ _ h => h) (some 87) rfl (Or.inl ⟨by rfl, ?_⟩) ?_
                        rotate_left 1
                        · intro w; go_simp; try with_reducible rfl
                        simp only [Act.put, List.setIfInBounds_toArray, List.set_cons_zero, List.set_cons_succ]
                        refine take_at (i := 5) (v := ?_) rfl (by kernel_rfl) (by kernel_rfl) (by kernel_rfl) (fun _ _ _ h => h) (some 92) rfl (Or.inl ⟨by rfl, ?_⟩) ?_
                        rotate_left 1
                        · intro w; go_simp; try with_reducible rfl
                        simp only [Act.put, List.setIfInBounds_toArray, List.set_cons_zero, List.set_cons_succ]
                        refine take_at (i := 6) (v := ?_) rfl (by kernel_rfl) (by kernel_rfl) (by kernel_rfl) (fun _ _ _ h => h) (some 93) rfl (Or.inl ⟨by rfl, ?_⟩) ?_
                        rotate_left 1
                        · intro w; go_simp; try with_reducible rfl
                        simp only [Act.put, List.setIfInBounds_toArray, List.set_cons_zero, List.set_cons_succ]
                        refine take_at (i := 7) (v := ?_) rfl (by kernel_rfl) (by kernel_rfl) (by kernel_rfl) (fun _ _ _ h => h) (some 94) rfl (Or.inl ⟨by rfl, ?_⟩) ?_
                        rotate_left 1
                        · intro w; go_simp; try with_reducible rfl
                        simp only [Act.put, List.setIfInBounds_toArray, List.set_cons_zero, List.set_cons_succ]
                        refine wpAny_ready (rs := [8]) (by kernel_rfl) (by simp) ?_
                        refine AllReady.cons rfl (fun KK hKK => ?_) ?_
                        · skip
                          go_simp
                          refine hKK _ _ ?_; clear hKK KK; try simp only [Act.put, List.setIfInBounds_toArray, List.set_cons_zero, List.set_cons_succ]
                          change wpAny _ _ _ _ _ _ _ (z30.alloc (.cells tlZ 27))
                          have hal := (Below.refl z30.heap.size z30).alloc (Nat.le_refl _) (.cells tlZ 27)
                          have HBz31 := Lib.hid ((HBz30.out).trans (hal.mono (HBz30.out).size)); have HP31 := Lib.hid (Blk.new z30 27 tlZ); have HQ := Lib.hid ((HBz30.out).size)
                          have HO31 := Lib.hid (HO30.out.below hal); have HE31 := Lib.hid (HE30.out.below hal)
                          clear hal
                          generalize z30.alloc (.cells tlZ 27) = z31 at *
                          obtain ⟨p, hp⟩ : ∃ p, p = z30.heap.size := ⟨_, rfl⟩
                          rw [← hp] at HP31 HQ ⊢; clear hp
                          refine wpAny_ready (rs := [9]) (by kernel_rfl) (by simp) ?_
                          refine AllReady.cons rfl (fun KK hKK => ?_) AllReady.nil
                          refine step_store (by rfl) 27 (.tmp 14) (.tmp 92) (by rfl) _ (tlC A6 c6 (t)) (by rfl) (by rfl) 27 tlZ HP31.out size27 rfl (tlC_one ..) none rfl ?_
                          intro v hbk hon
                          have HX := DoBox.made (A5 := A5) (c5 := c5) HBz31.out HQ.out HP31.out HO31.out HE31.out hbk hon
                          clear hbk hon; refine hKK _ _ ?_; clear hKK KK; simp only [Act.put]
                          refine take_at (i := 10) (v := ?_) rfl (by kernel_rfl) (by kernel_rfl) (by kernel_rfl) (fun _ _ _ h => h) (some 15) rfl (Or.inl ⟨by rfl, ?_⟩) ?_
                          rotate_left 1
                          · intro w; go_simp; try with_reducible rfl
                          simp only [Act.put, List.setIfInBounds_toArray, List.set_cons_zero, List.set_cons_succ]
                          refine take_at (i := 11) (v := ?_) rfl (by kernel_rfl) (by kernel_rfl) (by kernel_rfl) (fun _ _ _ h => h) (some 16) rfl (Or.inl ⟨by rfl, ?_⟩) ?_
                          rotate_left 1
                          · intro w; go_simp; try with_reducible rfl
                          simp only [Act.put, List.setIfInBounds_toArray, List.set_cons_zero, List.set_cons_succ]
                          refine wpAny_done (by kernel_rfl) ?_ _
                          exact HSH _ _ _ _ _ _ _ _ HX
                        exact AllReady.nil
                      refine AllReady.cons rfl (fun KK hKK => ?_) ?_
                      · skip
                        go_simp
                        refine hKK _ _ ?_; clear hKK KK; try simp only [Act.put, List.setIfInBounds_toArray, List.set_cons_zero, List.set_cons_succ]
                        change wpAny _ _ _ _ _ _ _ (z29.alloc (.cells tlZ 27))
                        have hal := (Below.refl z29.heap.size z29).alloc (Nat.le_refl _) (.cells tlZ 27)
                        have HBz33 := Lib.hid ((HBz29.out).trans (hal.mono (HBz29.out).size)); have HP33 := Lib.hid (Blk.new z29 27 tlZ); have HQ := Lib.hid ((HBz29.out).size)
                        have HC33 := Lib.hid (HC29.out.below hal)
                        clear hal
                        generalize z29.alloc (.cells tlZ 27) = z33 at *
                        obtain ⟨p, hp⟩ : ∃ p, p = z29.heap.size := ⟨_, rfl⟩
                        rw [← hp] at HP33 HQ ⊢; clear hp
                        refine wpAny_ready (rs := [3]) (by kernel_rfl) (by simp) ?_
                        refine AllReady.cons rfl (fun KK hKK => ?_) ?_
                        · skip
                          refine step_call2 (by rfl) 22 (.tmp 89) (.tmp 90) _ (by rfl) (tlV A5 c5 u) (cmV (twM 10 h t (1 + z))) (by rfl) (by rfl) (fun _ _ => rfl) _ (do_as (w := z33) HC33.out (Hsm.out) (Hhs.out) ((G9.out.tb).below HBz33.out) (Ht3.out) (Hev.out) (Hc3.out)) (some 91) rfl ?_
                          rintro e z34 ⟨A6, c6, B6, e6, rfl, ho6, he6, hb⟩
                          refine ⟨_, rfl, ?_⟩
                          have HBz34 := Lib.hid ((HBz33.out).trans (hb.mono (HBz33.out).size)); have HO34 := Lib.hid (Own.base ho6 (HBz33.out).size); have HE34 := Lib.hid (OwnE.base he6 (HBz33.out).size)
                          have HP34 := Lib.hid (HP33.out.below hb HP33.out.lt)
                          clear hb ho6 he6; refine hKK _ _ ?_; clear hKK KK; simp only [Act.put, List.setIfInBounds_toArray, List.set_cons_zero, List.set_cons_succ]
                          refine take_at (i := 4) (v := ?_) rfl (by kernel_rfl) (by kernel_rfl) (by kernel_rfl) (fun _ _ _ h => h) (some 87) rfl (Or.inl ⟨by rfl, ?_⟩) ?_
                          rotate_left 1
                          · intro w; go_simp; try with_reducible rfl
                          simp only [Act.put, List.setIfInBounds_toArray, List.set_cons_zero, List.set_cons_succ]
                          refine take_at (i := 5) (v := ?_) rfl (by kernel_rfl) (by kernel_rfl) (by kernel_rfl) (fun _ _ _ h => h) (some 92) rfl (Or.inl ⟨by rfl, ?_⟩) ?_
                          rotate_left 1
                          · intro w; go_simp; try with_reducible rfl
                          simp only [Act.put, List.setIfInBounds_toArray, List.set_cons_zero, List.set_cons_succ]
                          refine take_at (i := 6) (v := ?_) rfl (by kernel_rfl) (by kernel_rfl) (by kernel_rfl) (fun _ _ _ h => h) (some 93) rfl (Or.inl ⟨by rfl, ?_⟩) ?_
                          rotate_left 1
                          · intro w; go_simp; try with_reducible rfl
                          simp only [Act.put, List.setIfInBounds_toArray, List.set_cons_zero, List.set_cons_succ]
                          refine take_at (i := 7) (v := ?_) rfl (by kernel_rfl) (by kernel_rfl) (by kernel_rfl) (fun _ _ _ h => h) (some 94) rfl (Or.inl ⟨by rfl, ?_⟩) ?_
                          rotate_left 1
                          · intro w; go_simp; try with_reducible rfl
                          simp only [Act.put, List.setIfInBounds_toArray, List.set_cons_zero, List.set_cons_succ]
                          refine wpAny_ready (rs := [9]) (by kernel_rfl) (by simp) ?_
                          refine AllReady.cons rfl (fun KK hKK => ?_) AllReady.nil
                          refine step_store (by rfl) 27 (.tmp 14) (.tmp 92) (by rfl) _ (tlC A6 c6 (t)) (by rfl) (by rfl) 27 tlZ HP34.out size27 rfl (tlC_one ..) none rfl ?_
                          intro v hbk hon
                          have HX := DoBox.made (A5 := A5) (c5 := c5) HBz34.out HQ.out HP34.out HO34.out HE34.out hbk hon
                          clear hbk hon; refine hKK _ _ ?_; clear hKK KK; simp only [Act.put]
                          refine take_at (i := 10) (v := ?_) rfl (by kernel_rfl) (by kernel_rfl) (by kernel_rfl) (fun _ _ _ h => h) (some 15) rfl (Or.inl ⟨by rfl, ?_⟩) ?_
                          rotate_left 1
                          · intro w; go_simp; try with_reducible rfl
                          simp only [Act.put, List.setIfInBounds_toArray, List.set_cons_zero, List.set_cons_succ]
                          refine take_at (i := 11) (v := ?_) rfl (by kernel_rfl) (by kernel_rfl) (by kernel_rfl) (fun _ _ _ h => h) (some 16) rfl (Or.inl ⟨by rfl, ?_⟩) ?_
                          rotate_left 1
                          · intro w; go_simp; try with_reducible rfl
                          simp only [Act.put, List.setIfInBounds_toArray, List.set_cons_zero, List.set_cons_succ]
                          refine wpAny_done (by kernel_rfl) ?_ _
                          exact HSH _ _ _ _ _ _ _ _ HX
                        exact AllReady.nil
                      exact AllReady.nil
                    refine AllReady.cons rfl (fun KK hKK => ?_) ?_
                    · skip
                      go_simp
                      refine hKK _ _ ?_; clear hKK KK; try simp only [Act.put, List.setIfInBounds_toArray, List.set_cons_zero, List.set_cons_succ]
                      change wpAny _ _ _ _ _ _ _ (z0.alloc (.cells tlZ 27))
                      have hal := (Below.refl z0.heap.size z0).alloc (Nat.le_refl _) (.cells tlZ 27)
                      have HBz36 := Lib.hid ((HBz0.out).trans (hal.mono (HBz0.out).size)); have HP36 := Lib.hid (Blk.new z0 27 tlZ); have HQ := Lib.hid ((HBz0.out).size)
                      clear hal
                      generalize z0.alloc (.cells tlZ 27) = z36 at *
                      obtain ⟨p, hp⟩ : ∃ p, p = z0.heap.size := ⟨_, rfl⟩
                      rw [← hp] at HP36 HQ ⊢; clear hp
                      refine wpAny_ready (rs := [1]) (by kernel_rfl) (by simp) ?_
                      refine AllReady.cons rfl (fun KK hKK => ?_) ?_
                      · skip
                        refine step_call1 (by rfl) 13 (.tmp 88) _ (by rfl) (tlV A2 c2 u) (by rfl) (fun _ _ => rfl) _ (copy_any A2 c2 u z36 ((HR92.out).below HBz36.out) (Nat.le_trans (Hsm.out).1 (by decide))) (some 89) rfl ?_
                        rintro e z37 ⟨A5, c5, rfl, ho5, hb⟩
                        refine ⟨_, rfl, ?_⟩
                        have HBz37 := Lib.hid ((HBz36.out).trans (hb.mono (HBz36.out).size)); have HC37 := Lib.hid ho5.rgs
                        have HP37 := Lib.hid (HP36.out.below hb HP36.out.lt)
                        clear hb ho5; refine hKK _ _ ?_; clear hKK KK; simp only [Act.put, List.setIfInBounds_toArray, List.set_cons_zero, List.set_cons_succ]
                        refine wpAny_ready (rs := [3]) (by kernel_rfl) (by simp) ?_
                        refine AllReady.cons rfl (fun KK hKK => ?_) ?_
                        · skip
                          refine step_call2 (by rfl) 22 (.tmp 89) (.tmp 90) _ (by rfl) (tlV A5 c5 u) (cmV (twM 10 h t (1 + z))) (by rfl) (by rfl) (fun _ _ => rfl) _ (do_as (w := z37) HC37.out (Hsm.out) (Hhs.out) ((G9.out.tb).below HBz37.out) (Ht3.out) (Hev.out) (Hc3.out)) (some 91) rfl ?_
                          rintro e z38 ⟨A6, c6, B6, e6, rfl, ho6, he6, hb⟩
                          refine ⟨_, rfl, ?_⟩
                          have HBz38 := Lib.hid ((HBz37.out).trans (hb.mono (HBz37.out).size)); have HO38 := Lib.hid (Own.base ho6 (HBz37.out).size); have HE38 := Lib.hid (OwnE.base he6 (HBz37.out).size)
                          have HP38 := Lib.hid (HP37.out.below hb HP37.out.lt)
                          clear hb ho6 he6; refine hKK _ _ ?_; clear hKK KK; simp only [Act.put, List.setIfInBounds_toArray, List.set_cons_zero, List.set_cons_succ]
                          refine take_at (i := 4) (v := ?_) rfl (by kernel_rfl) (by kernel_rfl) (by kernel_rfl) (fun _ _ _ h => h) (some 87) rfl (Or.inl ⟨by rfl, ?_⟩) ?_
                          rotate_left 1
                          · intro w; go_simp; try with_reducible rfl
                          simp only [Act.put, List.setIfInBounds_toArray, List.set_cons_zero, List.set_cons_succ]
                          refine take_at (i := 5) (v := ?_) rfl (by kernel_rfl) (by kernel_rfl) (by kernel_rfl) (fun _ _ _ h => h) (some 92) rfl (Or.inl ⟨by rfl, ?_⟩) ?_
                          rotate_left 1
                          · intro w; go_simp; try with_reducible rfl
                          simp only [Act.put, List.setIfInBounds_toArray, List.set_cons_zero, List.set_cons_succ]
                          refine take_at (i := 6) (v := ?_) rfl (by kernel_rfl) (by kernel_rfl) (by kernel_rfl) (fun _ _ _ h => h) (some 93) rfl (Or.inl ⟨by rfl, ?_⟩) ?_
                          rotate_left 1
                          · intro w; go_simp; try with_reducible rfl
                          simp only [Act.put, List.setIfInBounds_toArray, List.set_cons_zero, List.set_cons_succ]
                          refine take_at (i := 7) (v := ?_) rfl (by kernel_rfl) (by kernel_rfl) (by kernel_rfl) (fun _ _ _ h => h) (some 94) rfl (Or.inl ⟨by rfl, ?_⟩) ?_
                          rotate_left 1
                          · intro w; go_simp; try with_reducible rfl
                          simp only [Act.put, List.setIfInBounds_toArray, List.set_cons_zero, List.set_cons_succ]
                          refine wpAny_ready (rs := [9]) (by kernel_rfl) (by simp) ?_
                          refine AllReady.cons rfl (fun KK hKK => ?_) AllReady.nil
                          refine step_store (by rfl) 27 (.tmp 14) (.tmp 92) (by rfl) _ (tlC A6 c6 (t)) (by rfl) (by rfl) 27 tlZ HP38.out size27 rfl (tlC_one ..) none rfl ?_
                          intro v hbk hon
                          have HX := DoBox.made (A5 := A5) (c5 := c5) HBz38.out HQ.out HP38.out HO38.out HE38.out hbk hon
                          clear hbk hon; refine hKK _ _ ?_; clear hKK KK; simp only [Act.put]
                          refine take_at (i := 10) (v := ?_) rfl (by kernel_rfl) (by kernel_rfl) (by kernel_rfl) (fun _ _ _ h => h) (some 15) rfl (Or.inl ⟨by rfl, ?_⟩) ?_
                          rotate_left 1
                          · intro w; go_simp; try with_reducible rfl
                          simp only [Act.put, List.setIfInBounds_toArray, List.set_cons_zero, List.set_cons_succ]
                          refine take_at (i := 11) (v := ?_) rfl (by kernel_rfl) (by kernel_rfl) (by kernel_rfl) (fun _ _ _ h => h) (some 16) rfl (Or.inl ⟨by rfl, ?_⟩) ?_
                          rotate_left 1
                          · intro w; go_simp; try with_reducible rfl
                          simp only [Act.put, List.setIfInBounds_toArray, List.set_cons_zero, List.set_cons_succ]
                          refine wpAny_done (by kernel_rfl) ?_ _
                          exact HSH _ _ _ _ _ _ _ _ HX
                        exact AllReady.nil
                      exact AllReady.nil
                    exact AllReady.nil
                  refine AllReady.cons rfl (fun KK hKK => ?_) ?_
                  · skip
                    go_simp
                    refine hKK _ _ ?_; clear hKK KK; try simp only [Act.put, List.setIfInBounds_toArray, List.set_cons_zero, List.set_cons_succ]
                    change wpAny _ _ _ _ _ _ _ (z0.alloc (.cells tlZ 27))
                    have hal := (Below.refl z0.heap.size z0).alloc (Nat.le_refl _) (.cells tlZ 27)
                    have HBz40 := Lib.hid ((HBz0.out).trans (hal.mono (HBz0.out).size)); have HP40 := Lib.hid (Blk.new z0 27 tlZ); have HQ := Lib.hid ((HBz0.out).size)
                    clear hal
                    generalize z0.alloc (.cells tlZ 27) = z40 at *
                    obtain ⟨p, hp⟩ : ∃ p, p = z0.heap.size := ⟨_, rfl⟩
                    rw [← hp] at HP40 HQ ⊢; clear hp
                    refine wpAny_ready (rs := [0]) (by kernel_rfl) (by simp) ?_
                    refine AllReady.cons rfl (fun KK hKK => ?_) ?_
                    · skip
                      refine step_load (by rfl) 27 (.tmp 11) (by rfl) p2 (by rfl) 27 (tlC A2 c2 u) ((HB92.out).below HBz40.out (HB92.out).lt) _ Tryd.underlying27 rfl size27 (some 88) rfl ?_
                      refine hKK _ _ ?_; clear hKK KK; simp only [Act.put, List.setIfInBounds_toArray, List.set_cons_zero, List.set_cons_succ]
                      refine wpAny_ready (rs := [1]) (by kernel_rfl) (by simp) ?_
                      refine AllReady.cons rfl (fun KK hKK => ?_) ?_
                      · skip
                        refine step_call1 (by rfl) 13 (.tmp 88) _ (by rfl) (tlV A2 c2 u) (by rfl) (fun _ _ => rfl) _ (copy_any A2 c2 u z40 ((HR92.out).below HBz40.out) (Nat.le_trans (Hsm.out).1 (by decide))) (some 89) rfl ?_
                        rintro e z41 ⟨A5, c5, rfl, ho5, hb⟩
                        refine ⟨_, rfl, ?_⟩
                        have HBz41 := Lib.hid ((HBz40.out).trans (hb.mono (HBz40.out).size)); have HC41 := Lib.hid ho5.rgs
                        have HP41 := Lib.hid (HP40.out.below hb HP40.out.lt)
                        clear hb ho5; refine hKK _ _ ?_; clear hKK KK; simp only [Act.put, List.setIfInBounds_toArray, List.set_cons_zero, List.set_cons_succ]
                        refine wpAny_ready (rs := [3]) (by kernel_rfl) (by simp) ?_
                        refine AllReady.cons rfl (fun KK hKK => ?_) ?_
                        · skip
                          refine step_call2 (by rfl) 22 (.tmp 89) (.tmp 90) _ (by rfl) (tlV A5 c5 u) (cmV (twM 10 h t (1 + z))) (by rfl) (by rfl) (fun _ _ => rfl) _ (do_as (w := z41) HC41.out (Hsm.out) (Hhs.out) ((G9.out.tb).below HBz41.out) (Ht3.out) (Hev.out) (Hc3.out)) (some 91) rfl ?_
                          rintro e z42 ⟨A6, c6, B6, e6, rfl, ho6, he6, hb⟩
                          refine ⟨_, rfl, ?_⟩
                          have HBz42 := Lib.hid ((HBz41.out).trans (hb.mono (HBz41.out).size)); have HO42 := Lib.hid (Own.base ho6 (HBz41.out).size); have HE42 := Lib.hid (OwnE.base he6 (HBz41.out).size)
                          have HP42 := Lib.hid (HP41.out.below hb HP41.out.lt)
                          clear hb ho6 he6; refine hKK _ _ ?_; clear hKK KK; simp only [Act.put, List.setIfInBounds_toArray, List.set_cons_zero, List.set_cons_succ]
                          refine take_at (i := 4) (v := ?_) rfl (by kernel_rfl) (by kernel_rfl) (by kernel_rfl) (fun _ _ _ h => h) (some 87) rfl (Or.inl ⟨by rfl, ?_⟩) ?_
                          rotate_left 1
                          · intro w; go_simp; try with_reducible rfl
                          simp only [Act.put, List.setIfInBounds_toArray, List.set_cons_zero, List.set_cons_succ]
                          refine take_at (i := 5) (v := ?_) rfl (by kernel_rfl) (by kernel_rfl) (by kernel_rfl) (fun _ _ _ h => h) (some 92) rfl (Or.inl ⟨by rfl, ?_⟩) ?_
                          rotate_left 1
                          · intro w; go_simp; try with_reducible rfl
                          simp only [Act.put, List.setIfInBounds_toArray, List.set_cons_zero, List.set_cons_succ]
                          refine take_at (i := 6) (v := ?_) rfl (by kernel_rfl) (by kernel_rfl) (by kernel_rfl) (fun _ _ _ h => h) (some 93) rfl (Or.inl ⟨by rfl, ?_⟩) ?_
                          rotate_left 1
                          · intro w; go_simp; try with_reducible rfl
                          simp only [Act.put, List.setIfInBounds_toArray, List.set_cons_zero, List.set_cons_succ]
                          refine take_at (i := 7) (v := ?_) rfl (by kernel_rfl) (by kernel_rfl) (by kernel_rfl) (fun _ _ _ h => h) (some 94) rfl (Or.inl ⟨by rfl, ?_⟩) ?_
                          rotate_left 1
                          · intro w; go_simp; try with_reducible rfl
                          simp only [Act.put, List.setIfInBounds_toArray, List.set_cons_zero, List.set_cons_succ]
                          refine wpAny_ready (rs := [9]) (by kernel_rfl) (by simp) ?_
                          refine AllReady.cons rfl (fun KK hKK => ?_) AllReady.nil
                          refine step_store (by rfl) 27 (.tmp 14) (.tmp 92) (by rfl) _ (tlC A6 c6 (t)) (by rfl) (by rfl) 27 tlZ HP42.out size27 rfl (tlC_one ..) none rfl ?_
                          intro v hbk hon
                          have HX := DoBox.made (A5 := A5) (c5 := c5) HBz42.out HQ.out HP42.out HO42.out HE42.out hbk hon
                          clear hbk hon; refine hKK _ _ ?_; clear hKK KK; simp only [Act.put]
                          refine take_at (i := 10) (v := ?_) rfl (by kernel_rfl) (by kernel_rfl) (by kernel_rfl) (fun _ _ _ h => h) (some 15) rfl (Or.inl ⟨by rfl, ?_⟩) ?_
                          rotate_left 1
                          · intro w; go_simp; try with_reducible rfl
                          simp only [Act.put, List.setIfInBounds_toArray, List.set_cons_zero, List.set_cons_succ]
                          refine take_at (i := 11) (v := ?_) rfl (by kernel_rfl) (by kernel_rfl) (by kernel_rfl) (fun _ _ _ h => h) (some 16) rfl (Or.inl ⟨by rfl, ?_⟩) ?_
                          rotate_left 1
                          · intro w; go_simp; try with_reducible rfl
                          simp only [Act.put, List.setIfInBounds_toArray, List.set_cons_zero, List.set_cons_succ]
                          refine wpAny_done (by kernel_rfl) ?_ _
                          exact HSH _ _ _ _ _ _ _ _ HX
                        exact AllReady.nil
                      exact AllReady.nil
                    exact AllReady.nil
                  exact AllReady.nil
                refine AllReady.cons rfl (fun KK hKK => ?_) ?_
                · skip
                  go_simp
                  refine hKK _ _ ?_; clear hKK KK; try simp only [Act.put, List.setIfInBounds_toArray, List.set_cons_zero, List.set_cons_succ]
                  change wpAny _ _ _ _ _ _ _ (z0.alloc (.cells tlZ 27))
                  have hal := (Below.refl z0.heap.size z0).alloc (Nat.le_refl _) (.cells tlZ 27)
                  have HBz44 := Lib.hid ((HBz0.out).trans (hal.mono (HBz0.out).size)); have HP44 := Lib.hid (Blk.new z0 27 tlZ); have HQ := Lib.hid ((HBz0.out).size)
                  clear hal
                  generalize z0.alloc (.cells tlZ 27) = z44 at *
                  obtain ⟨p, hp⟩ : ∃ p, p = z0.heap.size := ⟨_, rfl⟩
                  rw [← hp] at HP44 HQ ⊢; clear hp
                  refine wpAny_ready (rs := [0, 2]) (by kernel_rfl) (by simp) ?_
                  refine AllReady.cons rfl (fun KK hKK => ?_) ?_
                  · skip
                    refine step_load (by rfl) 27 (.tmp 11) (by rfl) p2 (by rfl) 27 (tlC A2 c2 u) ((HB92.out).below HBz44.out (HB92.out).lt) _ Tryd.underlying27 rfl size27 (some 88) rfl ?_
                    refine hKK _ _ ?_; clear hKK KK; simp only [Act.put, List.setIfInBounds_toArray, List.set_cons_zero, List.set_cons_succ]
                    refine wpAny_ready (rs := [1, 2]) (by kernel_rfl) (by simp) ?_
                    refine AllReady.cons rfl (fun KK hKK => ?_) ?_
                    · skip
                      refine step_call1 (by rfl) 13 (.tmp 88) _ (by rfl) (tlV A2 c2 u) (by rfl) (fun _ _ => rfl) _ (copy_any A2 c2 u z44 ((HR92.out).below HBz44.out) (Nat.le_trans (Hsm.out).1 (by decide))) (some 89) rfl ?_
                      rintro e z45 ⟨A5, c5, rfl, ho5, hb⟩
                      refine ⟨_, rfl, ?_⟩
                      have HBz45 := Lib.hid ((HBz44.out).trans (hb.mono (HBz44.out).size)); have HC45 := Lib.hid ho5.rgs
                      have HP45 := Lib.hid (HP44.out.below hb HP44.out.lt)
                      clear hb ho5; refine hKK _ _ ?_; clear hKK KK; simp only [Act.put, List.setIfInBounds_toArray, List.set_cons_zero, List.set_cons_succ]
                      refine wpAny_ready (rs := [2]) (by kernel_rfl) (by simp) ?_
                      refine AllReady.cons rfl (fun KK hKK => ?_) ?_
                      · skip
                        refine step_load (by rfl) 37 (.tmp 7) (by rfl) pm (by rfl) 37 (cmC (twM 10 h t (1 + z))) ((HCN.out).below HBz45.out (HCN.out).lt) _ Tryd.underlying37 rfl size37 (some 90) rfl ?_
                        refine hKK _ _ ?_; clear hKK KK; simp only [Act.put, List.setIfInBounds_toArray, List.set_cons_zero, List.set_cons_succ]
                        refine wpAny_ready (rs := [3]) (by kernel_rfl) (by simp) ?_
                        refine AllReady.cons rfl (fun KK hKK => ?_) ?_
                        · skip
                          refine step_call2 (by rfl) 22 (.tmp 89) (.tmp 90) _ (by rfl) (tlV A5 c5 u) (cmV (twM 10 h t (1 + z))) (by rfl) (by rfl) (fun _ _ => rfl) _ (do_as (w := z45) HC45.out (Hsm.out) (Hhs.out) ((G9.out.tb).below HBz45.out) (Ht3.out) (Hev.out) (Hc3.out)) (some 91) rfl ?_
                          rintro e z46 ⟨A6, c6, B6, e6, rfl, ho6, he6, hb⟩
                          refine ⟨_, rfl, ?_⟩
                          have HBz46 := Lib.hid ((HBz45.out).trans (hb.mono (HBz45.out).size)); have HO46 := Lib.hid (Own.base ho6 (HBz45.out).size); have HE46 := Lib.hid (OwnE.base he6 (HBz45.out).size)
                          have HP46 := Lib.hid (HP45.out.below hb HP45.out.lt)
                          clear hb ho6 he6; refine hKK _ _ ?_; clear hKK KK; simp only [Act.put, List.setIfInBounds_toArray, List.set_cons_zero, List.set_cons_succ]
                          refine take_at (i := 4) (v := ?_) rfl (by kernel_rfl) (by kernel_rfl) (by kernel_rfl) (fun _ _ _ h => h) (some 87) rfl (Or.inl ⟨by rfl, ?_⟩) ?_
                          rotate_left 1
                          · intro w; go_simp; try with_reducible rfl
                          simp only [Act.put, List.setIfInBounds_toArray, List.set_cons_zero, List.set_cons_succ]
                          refine take_at (i := 5) (v := ?_) rfl (by kernel_rfl) (by kernel_rfl) (by kernel_rfl) (fun _ _ _ h => h) (some 92) rfl (Or.inl ⟨by rfl, ?_⟩) ?_
                          rotate_left 1
                          · intro w; go_simp; try with_reducible rfl
                          simp only [Act.put, List.setIfInBounds_toArray, List.set_cons_zero, List.set_cons_succ]
                          refine take_at (i := 6) (v := ?_) rfl (by kernel_rfl) (by kernel_rfl) (by kernel_rfl) (fun _ _ _ h => h) (some 93) rfl (Or.inl ⟨by rfl, ?_⟩) ?_
                          rotate_left 1
                          · intro w; go_simp; try with_reducible rfl
                          simp only [Act.put, List.setIfInBounds_toArray, List.set_cons_zero, List.set_cons_succ]
                          refine take_at (i := 7) (v := ?_) rfl (by kernel_rfl) (by kernel_rfl) (by kernel_rfl) (fun _ _ _ h => h) (some 94) rfl (Or.inl ⟨by rfl, ?_⟩) ?_
                          rotate_left 1
                          · intro w; go_simp; try with_reducible rfl
                          simp only [Act.put, List.setIfInBounds_toArray, List.set_cons_zero, List.set_cons_succ]
                          refine wpAny_ready (rs := [9]) (by kernel_rfl) (by simp) ?_
                          refine AllReady.cons rfl (fun KK hKK => ?_) AllReady.nil
                          refine step_store (by rfl) 27 (.tmp 14) (.tmp 92) (by rfl) _ (tlC A6 c6 (t)) (by rfl) (by rfl) 27 tlZ HP46.out size27 rfl (tlC_one ..) none rfl ?_
                          intro v hbk hon
                          have HX := DoBox.made (A5 := A5) (c5 := c5) HBz46.out HQ.out HP46.out HO46.out HE46.out hbk hon
                          clear hbk hon; refine hKK _ _ ?_; clear hKK KK; simp only [Act.put]
                          refine take_at (i := 10) (v := ?_) rfl (by kernel_rfl) (by kernel_rfl) (by kernel_rfl) (fun _ _ _ h => h) (some 15) rfl (Or.inl ⟨by rfl, ?_⟩) ?_
                          rotate_left 1
                          · intro w; go_simp; try with_reducible rfl
                          simp only [Act.put, List.setIfInBounds_toArray, List.set_cons_zero, List.set_cons_succ]
                          refine take_at (i := 11) (v := ?_) rfl (by kernel_rfl) (by kernel_rfl) (by kernel_rfl) (fun _ _ _ h => h) (some 16) rfl (Or.inl ⟨by rfl, ?_⟩) ?_
                          rotate_left 1
                          · intro w; go_simp; try with_reducible rfl
                          simp only [Act.put, List.setIfInBounds_toArray, List.set_cons_zero, List.set_cons_succ]
                          refine wpAny_done (by kernel_rfl) ?_ _
                          exact HSH _ _ _ _ _ _ _ _ HX
                        exact AllReady.nil
                      exact AllReady.nil
                    refine AllReady.cons rfl (fun KK hKK => ?_) ?_
                    · skip
                      refine step_load (by rfl) 37 (.tmp 7) (by rfl) pm (by rfl) 37 (cmC (twM 10 h t (1 + z))) ((HCN.out).below HBz44.out (HCN.out).lt) _ Tryd.underlying37 rfl size37 (some 90) rfl ?_
                      refine hKK _ _ ?_; clear hKK KK; simp only [Act.put, List.setIfInBounds_toArray, List.set_cons_zero, List.set_cons_succ]
                      refine wpAny_ready (rs := [1]) (by kernel_rfl) (by simp) ?_
                      refine AllReady.cons rfl (fun KK hKK => ?_) ?_
                      · skip
                        refine step_call1 (by rfl) 13 (.tmp 88) _ (by rfl) (tlV A2 c2 u) (by rfl) (fun _ _ => rfl) _ (copy_any A2 c2 u z44 ((HR92.out).below HBz44.out) (Nat.le_trans (Hsm.out).1 (by decide))) (some 89) rfl ?_
                        rintro e z48 ⟨A5, c5, rfl, ho5, hb⟩
                        refine ⟨_, rfl, ?_⟩
                        have HBz48 := Lib.hid ((HBz44.out).trans (hb.mono (HBz44.out).size)); have HC48 := Lib.hid ho5.rgs
                        have HP48 := Lib.hid (HP44.out.below hb HP44.out.lt)
                        clear hb ho5; refine hKK _ _ ?_; clear hKK KK; simp only [Act.put, List.setIfInBounds_toArray, List.set_cons_zero, List.set_cons_succ]
                        refine wpAny_ready (rs := [3]) (by kernel_rfl) (by simp) ?_
                        refine AllReady.cons rfl (fun KK hKK => ?_) ?_
                        · skip
                          refine step_call2 (by rfl) 22 (.tmp 89) (.tmp 90) _ (by rfl) (tlV A5 c5 u) (cmV (twM 10 h t (1 + z))) (by rfl) (by rfl) (fun _ _ => rfl) _ (do_as (w := z48) HC48.out (Hsm.out) (Hhs.out) ((G9.out.tb).below HBz48.out) (Ht3.out) (Hev.out) (Hc3.out)) (some 91) rfl ?_
                          rintro e z49 ⟨A6, c6, B6, e6, rfl, ho6, he6, hb⟩
                          refine ⟨_, rfl, ?_⟩
                          have HBz49 := Lib.hid ((HBz48.out).trans (hb.mono (HBz48.out).size)); have HO49 := Lib.hid (Own.base ho6 (HBz48.out).size); have HE49 := Lib.hid (OwnE.base he6 (HBz48.out).size)
                          have HP49 := Lib.hid (HP48.out.below hb HP48.out.lt)
                          clear hb ho6 he6; refine hKK _ _ ?_; clear hKK KK; simp only [Act.put, List.setIfInBounds_toArray, List.set_cons_zero, List.set_cons_succ]
                          refine take_at (i := 4) (v := ?_) rfl (by kernel_rfl) (by kernel_rfl) (by kernel_rfl) (fun _ _ _ h => h) (some 87) rfl (Or.inl ⟨by rfl, ?_⟩) ?_
                          rotate_left 1
                          · intro w; go_simp; try with_reducible rfl
                          simp only [Act.put, List.setIfInBounds_toArray, List.set_cons_zero, List.set_cons_succ]
                          refine take_at (i := 5) (v := ?_) rfl (by kernel_rfl) (by kernel_rfl) (by kernel_rfl) (fun _ _ _ h => h) (some 92) rfl (Or.inl ⟨by rfl, ?_⟩) ?_
                          rotate_left 1
                          · intro w; go_simp; try with_reducible rfl
                          simp only [Act.put, List.setIfInBounds_toArray, List.set_cons_zero, List.set_cons_succ]
                          refine take_at (i := 6) (v := ?_) rfl (by kernel_rfl) (by kernel_rfl) (by kernel_rfl) (fun _ _ _ h => h) (some 93) rfl (Or.inl ⟨by rfl, ?_⟩) ?_
                          rotate_left 1
                          · intro w; go_simp; try with_reducible rfl
                          simp only [Act.put, List.setIfInBounds_toArray, List.set_cons_zero, List.set_cons_succ]
                          refine take_at (i := 7) (v := ?_) rfl (by kernel_rfl) (by kernel_rfl) (by kernel_rfl) (fun _ _ _ h => h) (some 94) rfl (Or.inl ⟨by rfl, ?_⟩) ?_
                          rotate_left 1
                          · intro w; go_simp; try with_reducible rfl
                          simp only [Act.put, List.setIfInBounds_toArray, List.set_cons_zero, List.set_cons_succ]
                          refine wpAny_ready (rs := [9]) (by kernel_rfl) (by simp) ?_
                          refine AllReady.cons rfl (fun KK hKK => ?_) AllReady.nil
                          refine step_store (by rfl) 27 (.tmp 14) (.tmp 92) (by rfl) _ (tlC A6 c6 (t)) (by rfl) (by rfl) 27 tlZ HP49.out size27 rfl (tlC_one ..) none rfl ?_
                          intro v hbk hon
                          have HX := DoBox.made (A5 := A5) (c5 := c5) HBz49.out HQ.out HP49.out HO49.out HE49.out hbk hon
                          clear hbk hon; refine hKK _ _ ?_; clear hKK KK; simp only [Act.put]
                          refine take_at (i := 10) (v := ?_) rfl (by kernel_rfl) (by kernel_rfl) (by kernel_rfl) (fun _ _ _ h => h) (some 15) rfl (Or.inl ⟨by rfl, ?_⟩) ?_
                          rotate_left 1
                          · intro w; go_simp; try with_reducible rfl
                          simp only [Act.put, List.setIfInBounds_toArray, List.set_cons_zero, List.set_cons_succ]
                          refine take_at (i := 11) (v := ?_) rfl (by kernel_rfl) (by kernel_rfl) (by kernel_rfl) (fun _ _ _ h => h) (some 16) rfl (Or.inl ⟨by rfl, ?_⟩) ?_
                          rotate_left 1
                          · intro w; go_simp; try with_reducible rfl
                          simp only [Act.put, List.setIfInBounds_toArray, List.set_cons_zero, List.set_cons_succ]
                          refine wpAny_done (by kernel_rfl) ?_ _
                          exact HSH _ _ _ _ _ _ _ _ HX
                        exact AllReady.nil
                      exact AllReady.nil
                    exact AllReady.nil
                  refine AllReady.cons rfl (fun KK hKK => ?_) ?_
                  · skip
                    refine step_load (by rfl) 37 (.tmp 7) (by rfl) pm (by rfl) 37 (cmC (twM 10 h t (1 + z))) ((HCN.out).below HBz44.out (HCN.out).lt) _ Tryd.underlying37 rfl size37 (some 90) rfl ?_
                    refine hKK _ _ ?_; clear hKK KK; simp only [Act.put, List.setIfInBounds_toArray, List.set_cons_zero, List.set_cons_succ]
                    refine wpAny_ready (rs := [0]) (by kernel_rfl) (by simp) ?_
                    refine AllReady.cons rfl (fun KK hKK => ?_) ?_
                    · skip
                      refine step_load (by rfl) 27 (.tmp 11) (by rfl) p2 (by rfl) 27 (tlC A2 c2 u) ((HB92.out).below HBz44.out (HB92.out).lt) _ Tryd.underlying27 rfl size27 (some 88) rfl ?_
                      refine hKK _ _ ?_; clear hKK KK; simp only [Act.put, List.setIfInBounds_toArray, List.set_cons_zero, List.set_cons_succ]
                      refine wpAny_ready (rs := [1]) (by kernel_rfl) (by simp) ?_
                      refine AllReady.cons rfl (fun KK hKK => ?_) ?_
                      · skip
                        refine step_call1 (by rfl) 13 (.tmp 88) _ (by rfl) (tlV A2 c2 u) (by rfl) (fun _ _ => rfl) _ (copy_any A2 c2 u z44 ((HR92.out).below HBz44.out) (Nat.le_trans (Hsm.out).1 (by decide))) (some 89) rfl ?_
                        rintro e z51 ⟨A5, c5, rfl, ho5, hb⟩
                        refine ⟨_, rfl, ?_⟩
                        have HBz51 := Lib.hid ((HBz44.out).trans (hb.mono (HBz44.out).size)); have HC51 := Lib.hid ho5.rgs
                        have HP51 := Lib.hid (HP44.out.below hb HP44.out.lt)
                        clear hb ho5; refine hKK _ _ ?_; clear hKK KK; simp only [Act.put, List.setIfInBounds_toArray, List.set_cons_zero, List.set_cons_succ]
                        refine wpAny_ready (rs := [3]) (by kernel_rfl) (by simp) ?_
                        refine AllReady.cons rfl (fun KK hKK => ?_) ?_
                        · skip
                          refine step_call2 (by rfl) 22 (.tmp 89) (.tmp 90) _ (by rfl) (tlV A5 c5 u) (cmV (twM 10 h t (1 + z))) (by rfl) (by rfl) (fun _ _ => rfl) _ (do_as (w := z51) HC51.out (Hsm.out) (Hhs.out) ((G9.out.tb).below HBz51.out) (Ht3.out) (Hev.out) (Hc3.out)) (some 91) rfl ?_
                          rintro e z52 ⟨A6, c6, B6, e6, rfl, ho6, he6, hb⟩
                          refine ⟨_, rfl, ?_⟩
                          have HBz52 := Lib.hid ((HBz51.out).trans (hb.mono (HBz51.out).size)); have HO52 := Lib.hid (Own.base ho6 (HBz51.out).size); have HE52 := Lib.hid (OwnE.base he6 (HBz51.out).size)
                          have HP52 := Lib.hid (HP51.out.below hb HP51.out.lt)
                          clear hb ho6 he6; refine hKK _ _ ?_; clear hKK KK; simp only [Act.put, List.setIfInBounds_toArray, List.set_cons_zero, List.set_cons_succ]
                          refine take_at (i := 4) (v := ?_) rfl (by kernel_rfl) (by kernel_rfl) (by kernel_rfl) (fun _ _ _ h => h) (some 87) rfl (Or.inl ⟨by rfl, ?_⟩) ?_
                          rotate_left 1
                          · intro w; go_simp; try with_reducible rfl
                          simp only [Act.put, List.setIfInBounds_toArray, List.set_cons_zero, List.set_cons_succ]
                          refine take_at (i := 5) (v := ?_) rfl (by kernel_rfl) (by kernel_rfl) (by kernel_rfl) (fun _ _ _ h => h) (some 92) rfl (Or.inl ⟨by rfl, ?_⟩) ?_
                          rotate_left 1
                          · intro w; go_simp; try with_reducible rfl
                          simp only [Act.put, List.setIfInBounds_toArray, List.set_cons_zero, List.set_cons_succ]
                          refine take_at (i := 6) (v := ?_) rfl (by kernel_rfl) (by kernel_rfl) (by kernel_rfl) (fun _ _ _ h => h) (some 93) rfl (Or.inl ⟨by rfl, ?_⟩) ?_
                          rotate_left 1
                          · intro w; go_simp; try with_reducible rfl
                          simp only [Act.put, List.setIfInBounds_toArray, List.set_cons_zero, List.set_cons_succ]
                          refine take_at (i := 7) (v := ?_) rfl (by kernel_rfl) (by kernel_rfl) (by kernel_rfl) (fun _ _ _ h => h) (some 94) rfl (Or.inl ⟨by rfl, ?_⟩) ?_
                          rotate_left 1
                          · intro w; go_simp; try with_reducible rfl
                          simp only [Act.put, List.setIfInBounds_toArray, List.set_cons_zero, List.set_cons_succ]
                          refine wpAny_ready (rs := [9]) (by kernel_rfl) (by simp) ?_
                          refine AllReady.cons rfl (fun KK hKK => ?_) AllReady.nil
                          refine step_store (by rfl) 27 (.tmp 14) (.tmp 92) (by rfl) _ (tlC A6 c6 (t)) (by rfl) (by rfl) 27 tlZ HP52.out size27 rfl (tlC_one ..) none rfl ?_
                          intro v hbk hon
                          have HX := DoBox.made (A5 := A5) (c5 := c5) HBz52.out HQ.out HP52.out HO52.out HE52.out hbk hon
                          clear hbk hon; refine hKK _ _ ?_; clear hKK KK; simp only [Act.put]
                          refine take_at (i := 10) (v := ?_) rfl (by kernel_rfl) (by kernel_rfl) (by kernel_rfl) (fun _ _ _ h => h) (some 15) rfl (Or.inl ⟨by rfl, ?_⟩) ?_
                          rotate_left 1
                          · intro w; go_simp; try with_reducible rfl
                          simp only [Act.put, List.setIfInBounds_toArray, List.set_cons_zero, List.set_cons_succ]
                          refine take_at (i := 11) (v := ?_) rfl (by kernel_rfl) (by kernel_rfl) (by kernel_rfl) (fun _ _ _ h => h) (some 16) rfl (Or.inl ⟨by rfl, ?_⟩) ?_
                          rotate_left 1
                          · intro w; go_simp; try with_reducible rfl
                          simp only [Act.put, List.setIfInBounds_toArray, List.set_cons_zero, List.set_cons_succ]
                          refine wpAny_done (by kernel_rfl) ?_ _
                          exact HSH _ _ _ _ _ _ _ _ HX
                        exact AllReady.nil
                      exact AllReady.nil
                    exact AllReady.nil
                  exact AllReady.nil
                exact AllReady.nil
              · skip
                intro v10 p3 A9 c9 A3 c3 B3 e3 HF
                obtain ⟨hb, hp, hbk, ho, he⟩ := HF
                have G10 := Lib.hid (G9.out.below hb); have HBp3 := Lib.hid hbk; have HOp3 := Lib.hid ho; have HEp3 := Lib.hid he; have HPp3 := Lib.hid hp; have HW10 := Lib.hid hb
                refine hKRz _ _ ?_
                clear hb hp hbk ho he hKRz KRz
                have HCMz := Lib.hid (HCN.out.below HW10.out HCN.out.lt)
                have HR3 := Lib.hid (HOp3.out.rgs)
                have hn1 : 1 ≤ t.rs.length := Hln.out
                have hn2 : t.rs.length ≤ 200 := HN.out.1
                have hwn : IntKind.i64.wrap ((t.rs.length : Int) - 1) = ((t.rs.length - 1 : Nat) : Int) := by rw [i64w _ (by omega)]; omega
                have d0 : v10.cell? ⟨p3, 0, none⟩ = some (.slice A3 t.rs.length c3) := HBp3.out.cell 0
                have d1 : v10.cell? ⟨p3, 1, none⟩ = some (.int .i64 t.ty) := HBp3.out.cell 1
                have d2 : v10.cell? ⟨p3, 2, none⟩ = some (.string t.ho) := HBp3.out.cell 2
                have d3 : v10.cell? ⟨p3, 3, none⟩ = some (.int .u32 t.ge) := HBp3.out.cell 3
                have d4 : v10.cell? ⟨p3, 4, none⟩ = some (.bool t.ap) := HBp3.out.cell 4
                have c0 : v10.cell? ⟨w.heap.size, 0, none⟩ = some (.slice A t.rs.length c) := G10.out.b.cell 0
                have c1 : v10.cell? ⟨w.heap.size, 1, none⟩ = some (.int .i64 t.ty) := G10.out.b.cell 1
                have c2 : v10.cell? ⟨w.heap.size, 2, none⟩ = some (.string t.ho) := G10.out.b.cell 2
                have c3' : v10.cell? ⟨w.heap.size, 3, none⟩ = some (.int .u32 t.ge) := G10.out.b.cell 3
                have c4 : v10.cell? ⟨w.heap.size, 4, none⟩ = some (.bool t.ap) := G10.out.b.cell 4
                have m11 : v10.cell? ⟨pm, 11, none⟩ = some (.int .i64 (1 + z)) := HCMz.out.cell 11
                obtain ⟨q, hq⟩ : ∃ q : Int, q = ((t.rs.length - 1 : Nat) : Int) := ⟨_, rfl⟩
                rw [← hq] at hwn
                cases h3 : decide (1 + z < 3) with
                | true =>
                  have hl3 : ev.length = 0 := by have := Hl3.out; rw [if_pos (of_decide_eq_true h3)] at this; exact this
                  have hev0 : ((ev.length : Int) == 0) = true := by rw [hl3]; rfl
                  clear hl3 hn1 hn2 hq
                  go_wp2_with (fail)
                  refine (tables_same A3 A c3 c t v10 HR3.out G10.out.l (Nat.le_trans HN.out.1 (by decide))).mono ?_; rintro e v11 ⟨rfl, hb⟩
                  have G11 := Lib.hid (G10.out.below hb); clear hb c0 c1 c2 c3' c4 d0 d1 d2 d3 d4 m11
                  go_wp2_with (fail)
                  refine (wakes_any v11 G11.out.tb).mono ?_; rintro e v12 ⟨rfl, hb⟩
                  have G12 := Lib.hid (G11.out.below hb); clear hb
                  go_wp2_with (fail)
                  go_ret
                  exact ⟨rfl, G12.out.bel⟩
                | false =>
                  have hl3 : ev.length = t.rs.length - 1 := by have := Hl3.out; rw [if_neg (of_decide_eq_false h3)] at this; exact this
                  have hev0 : ((ev.length : Int) == q) = true := by rw [hl3, hq]; exact beq_self_eq_true _
                  clear hl3 hn1 hn2 hq
                  go_wp2_with (fail)
                  refine (tables_same A3 A c3 c t v10 HR3.out G10.out.l (Nat.le_trans HN.out.1 (by decide))).mono ?_; rintro e v11 ⟨rfl, hb⟩
                  have G11 := Lib.hid (G10.out.below hb); clear hb c0 c1 c2 c3' c4 d0 d1 d2 d3 d4 m11
                  go_wp2_with (fail)
                  refine (wakes_any v11 G11.out.tb).mono ?_; rintro e v12 ⟨rfl, hb⟩
                  have G12 := Lib.hid (G11.out.below hb); clear hb
                  go_wp2_with (fail)
                  go_ret
                  exact ⟨rfl, G12.out.bel⟩
end Go.Proofs.YtgekadfkokkapaaDoor
