/- Which tables are good. Which tables are good: who may hold. A change's writers: whether it is kept, who holds. Whom a change tells. A reservation's end. An own row of registrations, some taken out of it in place. One registration taken out of a row in place: slices.Delete. -/
import Derived.Test.YtgekadfkokkapaaDoorPk05
namespace Go.Proofs.YtgekadfkokkapaaDoor
open Go.RowKit
/-- Is a registration at a place one that may stand there? -/
def okAt (l : List Rg) (k : Nat) : Bool := match l[k]? with
  | some x => (x.k != 0 && nameB x.h) && !regB (l.take k) x.h
  | none => true
/-- The first k registrations of a list are good ones. -/
def okTo (l : List Rg) : Nat → Bool
  | 0 => true
  | k + 1 => okTo l k && okAt l k
def regsB (l : List Rg) : Bool := decide (l.length ≤ 16) && okTo l l.length
def holdB (t : Tl) : Bool := if t.ty = 0 then t.ho.toList.isEmpty else if shB t.ty then t.ho.toList.isEmpty && decide (0 < t.rs.length) else typeB t.ty && regB t.rs t.ho
def goodB (t : Tl) : Bool := regsB t.rs && holdB t
theorem okTo_no {l : List Rg} {k : Nat} (h : okAt l k = false) (n : Nat) (hn : k < n) : okTo l n = false := by
  induction n with
  | zero => omega
  | succ n ih =>
    show (okTo l n && okAt l n) = false
    by_cases e : k = n
    · subst e; rw [h, Bool.and_false]
    · rw [ih (by omega), Bool.false_and]
theorem findIdx_lt {l : List Rg} {h : ByteArray} {k : Nat} (hr : regB (l.take k) h = true) : l.findIdx (isH h) < k := by
  obtain ⟨x, hx, he⟩ := List.any_eq_true.1 hr
  obtain ⟨i, hi, rfl⟩ := List.getElem_of_mem hx
  rw [List.length_take] at hi
  rw [List.getElem_take] at he
  have hle : l.findIdx (isH h) ≤ i := by
    apply Nat.le_of_not_lt
    intro hlt
    have := List.not_of_lt_findIdx hlt
    simp [isH] at this
    rw [he] at this
    cases this
  omega
theorem findIdx_self {l : List Rg} {k : Nat} {x : Rg} (hx : l[k]? = some x) (hr : regB (l.take k) x.h = false) : findQ (isH x.h) l = (k : Nat) :=
  findQ_here (q := isH x.h) hr hx (by show (x.h.toList == x.h.toList) = true; simp)
theorem findQ_less {l : List Rg} {k : Nat} {x : Rg} (_hx : l[k]? = some x) (hr : regB (l.take k) x.h = true) : ∃ i : Nat, findQ (isH x.h) l = i ∧ i < k := by
  refine ⟨l.findIdx (isH x.h), ?_, findIdx_lt hr⟩
  unfold findQ
  rw [if_pos]
  obtain ⟨y, hy, he⟩ := List.any_eq_true.1 hr
  exact List.any_eq_true.2 ⟨y, List.mem_of_mem_take hy, he⟩
set_option maxRecDepth 100000 in
set_option maxHeartbeats 2000000 in
theorem areRegs_any (A : Option Addr) (c : Nat) (l : List Rg) (w : World) (hl : Rgs w A l) (hm : l.length ≤ maxLen) :
    Calls Tryd.prog 30 #[.slice A l.length c] w fun e w' => e = .returned (.bool (regsB l)) ∧ Below w.heap.size w w' := by
  unfold maxLen at hm
  by_cases h16 : l.length ≤ 16
  · have hgt : decide ((16 : Int) < l.length) = false := decide_eq_false (by omega)
    have hf : regsB l = okTo l l.length := by unfold regsB; rw [decide_eq_true h16, Bool.true_and]
    have HF := Lib.hid hf
    have HL := Lib.hid hl
    clear hl hf
    go_enter Tryd.func30, Tryd.ntmps30
    go_wp2_with (fail)
    go_loopw [10] (fun i wr => ∃ k : Nat, k ≤ l.length ∧ i = .int .i64 k ∧ Hid (okTo l k = true) ∧ Hid (Below w.heap.size w wr)) (fun i _ => l.length - (intOf i).toNat)
    case atStart => exact ⟨0, Nat.zero_le _, rfl, Lib.hid rfl, Lib.hid (Below.refl _ _)⟩
    case round =>
      obtain ⟨k, hk, rfl, HK, HB⟩ := hrel
      by_cases hlt : k < l.length
      · obtain ⟨b, o, x, rfl, hx, hz, c0, c1⟩ := ((HL.out.below HB.out).at_ hlt)
        have HX := Lib.hid hx
        have HZ := Lib.hid hz
        have hat : okAt l k = ((x.k != 0 && nameB x.h) && !regB (l.take k) x.h) := by unfold okAt; rw [hx]
        have HA := Lib.hid hat
        obtain ⟨g1, g2, g3⟩ := rg_box wr x _ rfl
        have HBx := Lib.hid g1; have HB2 := Lib.hid (HB.out.trans (g2.mono HB.out.size)); have HL2 := Lib.hid ((HL.out.below HB.out).below g2)
        clear g1 g2 g3 hx hz hat
        go_upto_region 6 with (fail)
        change Code.wp _ _ _ _ (wr.alloc (.cells (regC x) 57))
        generalize wr.alloc (.cells (regC x) 57) = w2 at *
        have k0 : w2.cell? ⟨wr.heap.size, 0, none⟩ = some (.string x.h) := HBx.out.cell 0
        have k1 : w2.cell? ⟨wr.heap.size, 1, none⟩ = some (.int .u64 x.k) := HBx.out.cell 1
        clear c0 c1
        have hnt := not_true
        have hnf := not_false
        cases hz : (x.k == 0) with
        | true =>
          have HO := Lib.hid (show okAt l k = false by rw [HA.out]; simp [bne, hz])
          clear HA
          go_wp2_with (fail)
          go_ret
          exact ⟨by rw [HF.out, okTo_no HO.out _ hlt]; rfl, HB2.out⟩
        | false =>
          have HN := Lib.hid (name_any x.h w2 HZ.out)
          cases hn : nameB x.h with
          | false =>
            rw [hn] at HN HA
            have HO := Lib.hid (show okAt l k = false by rw [HA.out]; simp)
            clear HA hn
            go_wp2_with (fail)
            refine HN.out.mono ?_; rintro e w3 ⟨rfl, hb3⟩
            have HB3 := Lib.hid (HB2.out.trans (hb3.mono HB2.out.size))
            clear hb3
            go_wp2_with (fail)
            go_ret
            exact ⟨by rw [HF.out, okTo_no HO.out _ hlt]; rfl, HB3.out⟩
          | true =>
            rw [hn] at HN HA
            have HI := Lib.hid (fun v (hb : Below w2.heap.size w2 v) => indexOf_any (some ⟨b, o, none⟩) c l x.h v (HL2.out.below hb) (by unfold maxLen; omega))
            cases hr : regB (l.take k) x.h with
            | true =>
              obtain ⟨i, hi, hik⟩ := findQ_less HX.out hr
              rw [hi] at HI
              have HO := Lib.hid (show okAt l k = false by rw [HA.out, hr]; simp)
              have hik2 : (i : Int) < k := by omega
              clear HA hn hr hi
              go_wp2_with (fail)
              refine HN.out.mono ?_; rintro e w3 ⟨rfl, hb3⟩
              have HB3 := Lib.hid (HB2.out.trans (hb3.mono HB2.out.size)); have HBx3 := Lib.hid (HBx.out.below hb3 HBx.out.lt)
              have k03 : w3.cell? ⟨wr.heap.size, 0, none⟩ = some (.string x.h) := HBx3.out.cell 0
              have HI3 := Lib.hid (HI.out w3 hb3)
              clear hb3 k0 k1
              go_wp2_with (fail)
              refine HI3.out.mono ?_; rintro e w4 ⟨rfl, hb4⟩
              have HB4 := Lib.hid (HB3.out.trans (hb4.mono HB3.out.size))
              clear hb4 k03
              go_wp2_with (fail)
              go_ret
              exact ⟨by rw [HF.out, okTo_no HO.out _ hlt]; rfl, HB4.out⟩
            | false =>
              rw [findIdx_self HX.out hr] at HI
              have HO := Lib.hid (show okAt l k = true by rw [HA.out, hr]; simp [bne, hz])
              clear HA hn hr
              go_wp2_with (fail)
              refine HN.out.mono ?_; rintro e w3 ⟨rfl, hb3⟩
              have HB3 := Lib.hid (HB2.out.trans (hb3.mono HB2.out.size)); have HBx3 := Lib.hid (HBx.out.below hb3 HBx.out.lt)
              have k03 : w3.cell? ⟨wr.heap.size, 0, none⟩ = some (.string x.h) := HBx3.out.cell 0
              have HI3 := Lib.hid (HI.out w3 hb3)
              clear hb3 k0 k1
              go_wp2_with (fail)
              refine HI3.out.mono ?_; rintro e w4 ⟨rfl, hb4⟩
              have HB4 := Lib.hid (HB3.out.trans (hb4.mono HB3.out.size))
              clear hb4 k03
              go_wp2_with (fail)
              go_roundw
              case rel => exact ⟨k + 1, by omega, by go_num, Lib.hid (by show (okTo l k && okAt l k) = true; rw [HK.out, HO.out]; rfl), HB4⟩
              case measure => simp [intOf]; omega
      · obtain rfl : k = l.length := by omega
        go_wp2_with (fail)
        go_ret
        exact ⟨by rw [HF.out, HK.out]; rfl, HB.out⟩
  · have hgt : decide ((16 : Int) < l.length) = true := decide_eq_true (by omega)
    have HF := Lib.hid (show regsB l = false by unfold regsB; rw [decide_eq_false h16]; rfl)
    clear hl
    go_enter Tryd.func30, Tryd.ntmps30
    go_wp2_with (fail)
    go_ret
    exact ⟨by rw [HF.out]; rfl, Below.refl _ _⟩
open Go.RowKit
set_option maxRecDepth 100000 in
set_option maxHeartbeats 2000000 in
theorem isHold_any (A : Option Addr) (c : Nat) (t : Tl) (w : World) (hl : Rgs w A t.rs) (hm : t.rs.length ≤ maxLen) :
    Calls Tryd.prog 31 #[tlV A c t] w fun e w' => e = .returned (.bool (holdB t)) ∧ Below w.heap.size w w' := by
  unfold maxLen at hm
  obtain ⟨h1, h2, h3⟩ := tl_box w A c t _ rfl
  have HT := Lib.hid h1; have HB := Lib.hid h2
  have HL := Lib.hid (hl.below h2)
  have HS := Lib.hid (fun v => shared_any t.ty v)
  have HTy := Lib.hid (fun v => type_any t.ty v)
  have HI := Lib.hid (fun v (hb : Below (w.alloc (.cells (tlC A c t) 27)).heap.size (w.alloc (.cells (tlC A c t) 27)) v) => indexOf_any A c t.rs t.ho v (HL.out.below hb) (by unfold maxLen; omega))
  have hf : holdB t = if t.ty = 0 then t.ho.toList.isEmpty else if shB t.ty then t.ho.toList.isEmpty && decide (0 < t.rs.length) else typeB t.ty && regB t.rs t.ho := rfl
  clear h1 h2 h3 hl
  cases hz : (t.ty == 0) with
  | true =>
    rw [if_pos (eqB hz)] at hf
    have HF := Lib.hid hf
    clear hf
    go_enter Tryd.func31, Tryd.ntmps31
    go_upto_region 1 with (fail)
    change Code.wp _ _ _ _ (w.alloc (.cells (tlC A c t) 27))
    generalize w.alloc (.cells (tlC A c t) 27) = w0 at *
    have c1 : w0.cell? ⟨w.heap.size, 1, none⟩ = some (.int .i64 t.ty) := HT.out.cell 1
    have c2 : w0.cell? ⟨w.heap.size, 2, none⟩ = some (.string t.ho) := HT.out.cell 2
    go_wp2_with (fail)
    go_ret
    exact ⟨by rw [HF.out]; rfl, HB.out⟩
  | false =>
    rw [if_neg (neB hz)] at hf
    cases hs : shB t.ty with
    | true =>
      rw [hs] at HS
      rw [if_pos hs] at hf
      cases he : t.ho.toList.isEmpty with
      | false =>
        rw [he, Bool.false_and] at hf
        have HF := Lib.hid hf
        have hn : ¬ t.ho.toList = [] := fun h => by rw [h] at he; cases he
        clear hf hs
        go_enter Tryd.func31, Tryd.ntmps31
        go_upto_region 1 with (fail)
        change Code.wp _ _ _ _ (w.alloc (.cells (tlC A c t) 27))
        generalize w.alloc (.cells (tlC A c t) 27) = w0 at *
        have c1 : w0.cell? ⟨w.heap.size, 1, none⟩ = some (.int .i64 t.ty) := HT.out.cell 1
        have c2 : w0.cell? ⟨w.heap.size, 2, none⟩ = some (.string t.ho) := HT.out.cell 2
        go_wp2_with (fail)
        refine (HS.out _).mono ?_; rintro e w1 ⟨rfl, rfl⟩
        go_wp2_with (fail)
        go_ret
        exact ⟨by rw [HF.out]; rfl, HB.out⟩
      | true =>
        rw [he, Bool.true_and] at hf
        have HF := Lib.hid hf
        have hn : t.ho.toList = [] := List.isEmpty_iff.1 he
        clear hf hs
        go_enter Tryd.func31, Tryd.ntmps31
        go_upto_region 1 with (fail)
        change Code.wp _ _ _ _ (w.alloc (.cells (tlC A c t) 27))
        generalize w.alloc (.cells (tlC A c t) 27) = w0 at *
        have c0 : w0.cell? ⟨w.heap.size, 0, none⟩ = some (.slice A t.rs.length c) := HT.out.cell 0
        have c1 : w0.cell? ⟨w.heap.size, 1, none⟩ = some (.int .i64 t.ty) := HT.out.cell 1
        have c2 : w0.cell? ⟨w.heap.size, 2, none⟩ = some (.string t.ho) := HT.out.cell 2
        go_wp2_with (fail)
        refine (HS.out _).mono ?_; rintro e w1 ⟨rfl, rfl⟩
        go_wp2_with (fail)
        go_ret
        exact ⟨by rw [HF.out]; rfl, HB.out⟩
    | false =>
      rw [hs] at HS
      rw [if_neg (by rw [hs]; decide)] at hf
      cases ht : typeB t.ty with
      | false =>
        rw [ht] at HTy
        rw [ht, Bool.false_and] at hf
        have HF := Lib.hid hf
        clear hf hs ht
        go_enter Tryd.func31, Tryd.ntmps31
        go_upto_region 1 with (fail)
        change Code.wp _ _ _ _ (w.alloc (.cells (tlC A c t) 27))
        generalize w.alloc (.cells (tlC A c t) 27) = w0 at *
        have c1 : w0.cell? ⟨w.heap.size, 1, none⟩ = some (.int .i64 t.ty) := HT.out.cell 1
        have c2 : w0.cell? ⟨w.heap.size, 2, none⟩ = some (.string t.ho) := HT.out.cell 2
        go_wp2_with (fail)
        refine (HS.out _).mono ?_; rintro e w1 ⟨rfl, rfl⟩
        go_wp2_with (fail)
        refine (HTy.out _).mono ?_; rintro e w1 ⟨rfl, rfl⟩
        go_wp2_with (fail)
        go_ret
        exact ⟨by rw [HF.out]; rfl, HB.out⟩
      | true =>
        rw [ht] at HTy
        rw [ht, Bool.true_and] at hf
        have hge := findQ_ge (isH t.ho) t.rs
        have hfr : regB t.rs t.ho = t.rs.any (isH t.ho) := rfl
        rw [hfr, ← hge] at hf
        have HF := Lib.hid hf
        clear hf hs ht hge hfr
        generalize findQ (isH t.ho) t.rs = f at *
        go_enter Tryd.func31, Tryd.ntmps31
        go_upto_region 1 with (fail)
        change Code.wp _ _ _ _ (w.alloc (.cells (tlC A c t) 27))
        generalize w.alloc (.cells (tlC A c t) 27) = w0 at *
        have c0 : w0.cell? ⟨w.heap.size, 0, none⟩ = some (.slice A t.rs.length c) := HT.out.cell 0
        have c1 : w0.cell? ⟨w.heap.size, 1, none⟩ = some (.int .i64 t.ty) := HT.out.cell 1
        have c2 : w0.cell? ⟨w.heap.size, 2, none⟩ = some (.string t.ho) := HT.out.cell 2
        go_wp2_with (fail)
        refine (HS.out _).mono ?_; rintro e w1 ⟨rfl, rfl⟩
        go_wp2_with (fail)
        refine (HTy.out _).mono ?_; rintro e w1 ⟨rfl, rfl⟩
        go_wp2_with (fail)
        refine (HI.out _ (Below.refl _ _)).mono ?_; rintro e w1 ⟨rfl, hb1⟩
        go_wp2_with (fail)
        go_ret
        exact ⟨by rw [HF.out]; rfl, HB.out.trans (hb1.mono HB.out.size)⟩
set_option maxHeartbeats 2000000 in
theorem good_any (A : Option Addr) (c : Nat) (t : Tl) (w : World) (hl : Rgs w A t.rs) (hm : t.rs.length ≤ maxLen) :
    Calls Tryd.prog 14 #[tlV A c t] w fun e w' => e = .returned (.bool (goodB t)) ∧ Below w.heap.size w w' := by
  obtain ⟨h1, h2, h3⟩ := tl_box w A c t _ rfl
  have HT := Lib.hid h1; have HB := Lib.hid h2
  have HL := Lib.hid (hl.below h2)
  have HR := Lib.hid (areRegs_any A c t.rs _ HL.out hm)
  have HH := Lib.hid (fun v (hb : Below (w.alloc (.cells (tlC A c t) 27)).heap.size (w.alloc (.cells (tlC A c t) 27)) v) => isHold_any A c t v (HL.out.below hb) hm)
  have hf : goodB t = (regsB t.rs && holdB t) := rfl
  clear h1 h2 h3 hl
  cases hr : regsB t.rs with
  | false =>
    rw [hr] at HR hf
    rw [Bool.false_and] at hf
    have HF := Lib.hid hf
    clear hf hr HH
    go_enter Tryd.func14, Tryd.ntmps14
    go_upto_region 1 with (fail)
    change Code.wp _ _ _ _ (w.alloc (.cells (tlC A c t) 27))
    generalize w.alloc (.cells (tlC A c t) 27) = w0 at *
    have c0 : w0.cell? ⟨w.heap.size, 0, none⟩ = some (.slice A t.rs.length c) := HT.out.cell 0
    go_wp2_with (fail)
    refine HR.out.mono ?_; rintro e w1 ⟨rfl, hb1⟩
    go_wp2_with (fail)
    go_ret
    exact ⟨by rw [HF.out]; rfl, HB.out.trans (hb1.mono HB.out.size)⟩
  | true =>
    rw [hr] at HR hf
    rw [Bool.true_and] at hf
    have HF := Lib.hid hf
    clear hf hr
    go_enter Tryd.func14, Tryd.ntmps14
    go_upto_region 1 with (fail)
    change Code.wp _ _ _ _ (w.alloc (.cells (tlC A c t) 27))
    generalize w.alloc (.cells (tlC A c t) 27) = w0 at *
    have c0 : w0.cell? ⟨w.heap.size, 0, none⟩ = some (.slice A t.rs.length c) := HT.out.cell 0
    go_wp2_with (fail)
    refine HR.out.mono ?_; rintro e w1 ⟨rfl, hb1⟩
    have HT1 := Lib.hid (HT.out.below hb1 HT.out.lt); have HB1 := Lib.hid (HB.out.trans (hb1.mono HB.out.size))
    have HH1 := Lib.hid (HH.out w1 hb1)
    have c0 : w1.cell? ⟨w.heap.size, 0, none⟩ = some (.slice A t.rs.length c) := HT1.out.cell 0
    have c1 : w1.cell? ⟨w.heap.size, 1, none⟩ = some (.int .i64 t.ty) := HT1.out.cell 1
    have c2 : w1.cell? ⟨w.heap.size, 2, none⟩ = some (.string t.ho) := HT1.out.cell 2
    have c3 : w1.cell? ⟨w.heap.size, 3, none⟩ = some (.int .u32 t.ge) := HT1.out.cell 3
    have c4 : w1.cell? ⟨w.heap.size, 4, none⟩ = some (.bool t.ap) := HT1.out.cell 4
    clear hb1
    go_wp2_with (fail)
    refine HH1.out.mono ?_; rintro e w2 ⟨rfl, hb2⟩
    go_wp2_with (fail)
    go_ret
    exact ⟨by rw [HF.out]; rfl, HB1.out.trans (hb2.mono HB1.out.size)⟩
open Go.RowKit
/-- A change that stands in memory from n0 on, with what is its own. -/
structure Chg (w : World) (n0 p : Nat) (A : Option Addr) (c : Nat) (t : Tl) (m : Cm) (B : Option Addr) (e : Nat) (es : List Ev) : Prop where
  blk : Blk w p 64 (chC A c t m B e es)
  rgs : Own w n0 A c t.rs
  evs : OwnE w n0 B e es
  hp : n0 ≤ p
section
variable {w v : World} {n0 p : Nat} {A : Option Addr} {c : Nat} {t : Tl} {m : Cm} {B : Option Addr} {e : Nat} {es : List Ev}
theorem Chg.at_ (h : Chg w n0 p A c t m B e es) : ChAt w p A c t m B e es := ⟨h.blk, h.rgs.rgs⟩
theorem Chg.below (h : Chg w n0 p A c t m B e es) (hb : Below w.heap.size w v) : Chg v n0 p A c t m B e es := ⟨h.blk.below hb h.blk.lt, h.rgs.below hb, h.evs.below hb, h.hp⟩
theorem Chg.lt (h : Chg w n0 p A c t m B e es) : n0 ≤ w.heap.size := Nat.le_trans h.hp (Nat.le_of_lt h.blk.lt)
theorem Chg.apart (h : Chg w n0 p A c t m B e es) : (Value.slice A t.rs.length c).ownBlock ≠ some p ∧ (Value.slice B es.length e).ownBlock ≠ some p :=
  ⟨own_apart h.rgs.1 h.blk (by decide), own_apart h.evs h.blk (by decide)⟩
theorem bel_put {n0 p : Nat} {w : World} (hp : n0 ≤ p) (hl : n0 ≤ w.heap.size) (i : Nat) (u : Value) : Below n0 w (w.setCell ⟨p, i, none⟩ u) :=
  ((Only.refl (fun k => k = p) w).setCell (.inl rfl) u).toBelow hl (fun k hk => by rw [hk]; exact hp)
/-- A cell of it written. -/
theorem Chg.put (h : Chg w n0 p A c t m B e es) (i : Nat) (u : Value) {t' : Tl} (hc : (chC A c t m B e es).setIfInBounds i u = chC A c t' m B e es) (hr : t'.rs = t.rs) : Chg (w.setCell ⟨p, i, none⟩ u) n0 p A c t' m B e es ∧ Below n0 w (w.setCell ⟨p, i, none⟩ u) := by
  refine ⟨⟨by have := h.blk.put i u; rw [hc] at this; exact this, ⟨?_, ?_⟩, ?_, h.hp⟩, bel_put h.hp h.lt i u⟩
  · rw [hr]
    exact own_keep h.rgs.1 fun g hg => Below.heap_setCell w _ u g (fun e => h.apart.1 (hg.trans (congrArg some e)))
  · rw [hr]; exact h.rgs.2
  · exact own_keep h.evs fun g hg => Below.heap_setCell w _ u g (fun e => h.apart.2 (hg.trans (congrArg some e)))
end
/-- What comes of a change that was worked on. -/
def WrO (n0 p : Nat) (t' : Tl) (m : Cm) (es' : List Ev) (w w' : World) : Prop := ∃ A' c' B' e', Chg w' n0 p A' c' t' m B' e' es' ∧ Below n0 w w'
def setAp (t : Tl) (m : Cm) : Tl := { t with ap := if m.ap = 1 then false else if m.ap = 2 then true else t.ap }
set_option maxHeartbeats 1000000 in
theorem aptpl_any (w : World) (n0 p : Nat) (A : Option Addr) (c : Nat) (t : Tl) (m : Cm) (B : Option Addr) (e : Nat) (es : List Ev) (h : Chg w n0 p A c t m B e es) :
    Calls Tryd.prog 69 #[.pointer (some ⟨p, 0, none⟩)] w fun e w' => e = .returned (.tuple #[]) ∧ WrO n0 p (setAp t m) m es w w' := by
  have c18 := h.at_.r.ma
  have f4 := h.blk.free 4
  have c4 := h.at_.r.ap
  have hf : setAp t m = { t with ap := if m.ap = 1 then false else if m.ap = 2 then true else t.ap } := rfl
  have H := Lib.hid h
  clear h
  cases e1 : (m.ap == 1) with
  | true =>
    rw [if_pos (eqB e1)] at hf
    rw [hf]; clear hf
    go_enter Tryd.func69, Tryd.ntmps69
    go_wp2_with (fail)
    go_end0
    obtain ⟨h1, h2⟩ := H.out.put 4 (.bool false) (t' := { t with ap := false }) rfl rfl
    exact ⟨rfl, A, c, B, e, h1, h2⟩
  | false =>
    rw [if_neg (neB e1)] at hf
    cases e2 : (m.ap == 2) with
    | true =>
      rw [if_pos (eqB e2)] at hf
      rw [hf]; clear hf
      go_enter Tryd.func69, Tryd.ntmps69
      go_wp2_with (fail)
      go_end0
      obtain ⟨h1, h2⟩ := H.out.put 4 (.bool true) (t' := { t with ap := true }) rfl rfl
      exact ⟨rfl, A, c, B, e, h1, h2⟩
    | false =>
      rw [if_neg (neB e2)] at hf
      rw [hf]; clear hf
      go_enter Tryd.func69, Tryd.ntmps69
      go_wp2_with (fail)
      go_end0
      exact ⟨rfl, A, c, B, e, H.out, Below.refl _ _⟩
/-- Who holds a reservation of a type that a host has made. -/
def holdT (t : Tl) (m : Cm) : Tl := { t with ty := m.ty, ho := if shB m.ty then ⟨#[]⟩ else m.ho }
theorem clone_any (s : ByteArray) (w : World) (hs : s.size ≤ 281474976710656) : Calls Tryd.prog 54 #[.string s] w fun e w' => e = .returned (.string s) ∧ Below w.heap.size w w' := by
  go_enter Tryd.func54, Tryd.ntmps54
  go_wp2_with (fail)
  refine (Tryd.stringslite_Clone s w hs).mono ?_
  rintro e w1 ⟨rfl, hb⟩
  go_wp2_with (fail)
  go_ret
  exact ⟨rfl, hb⟩
set_option maxHeartbeats 1000000 in
theorem hold_any (w : World) (n0 p : Nat) (A : Option Addr) (c : Nat) (t : Tl) (m : Cm) (B : Option Addr) (e : Nat) (es : List Ev) (h : Chg w n0 p A c t m B e es) (hs : m.ho.size ≤ 1000) :
    Calls Tryd.prog 71 #[.pointer (some ⟨p, 0, none⟩)] w fun e w' => e = .returned (.tuple #[]) ∧ WrO n0 p (holdT t m) m es w w' := by
  have c16 := h.at_.r.mt
  have c1 := h.at_.r.ty
  have c2 := h.at_.r.hh
  have f1 := h.blk.free 1
  have f2 := h.blk.free 2
  have hf : holdT t m = { t with ty := m.ty, ho := if shB m.ty then ⟨#[]⟩ else m.ho } := rfl
  have HS := Lib.hid (fun v => shared_any m.ty v)
  have H := Lib.hid h
  obtain ⟨h1, hb1⟩ := h.put 1 (.int .i64 m.ty) (t' := { t with ty := m.ty }) rfl rfl
  obtain ⟨h2, hb2⟩ := h1.put 2 (.string ⟨#[]⟩) (t' := { t with ty := m.ty, ho := ⟨#[]⟩ }) rfl rfl
  have HH := Lib.hid h2; have HB := Lib.hid (hb1.trans hb2)
  clear h h1 hb1 h2 hb2
  cases e1 : shB m.ty with
  | true =>
    rw [if_pos e1] at hf
    rw [e1] at HS
    rw [hf]; clear hf
    go_enter Tryd.func71, Tryd.ntmps71
    go_upto_region 1 with (fail)
    have c16 := HH.out.at_.r.mt
    clear c1 c2 f1 f2
    generalize (w.setCell ⟨p, 1, none⟩ (.int .i64 m.ty)).setCell ⟨p, 2, none⟩ (.string ⟨#[]⟩) = w0 at *
    go_wp2_with (fail)
    refine (HS.out _).mono ?_; rintro e w1 ⟨rfl, rfl⟩
    go_wp2_with (fail)
    go_end0
    exact ⟨rfl, A, c, B, e, HH.out, HB.out⟩
  | false =>
    rw [if_neg (by rw [e1]; decide)] at hf
    rw [e1] at HS
    rw [hf]; clear hf
    go_enter Tryd.func71, Tryd.ntmps71
    go_upto_region 1 with (fail)
    have c16 := HH.out.at_.r.mt
    have c7 := HH.out.at_.r.ho
    clear c1 c2 f1 f2
    generalize (w.setCell ⟨p, 1, none⟩ (.int .i64 m.ty)).setCell ⟨p, 2, none⟩ (.string ⟨#[]⟩) = w0 at *
    go_wp2_with (fail)
    refine (HS.out _).mono ?_; rintro e w1 ⟨rfl, rfl⟩
    go_wp2_with (fail)
    refine (clone_any m.ho _ (by omega)).mono ?_; rintro e w1 ⟨rfl, hb1⟩
    have H1 := HH.out.below hb1
    have f2 := H1.blk.free 2
    have c2 := H1.at_.r.hh
    obtain ⟨h3, hb3⟩ := H1.put 2 (.string m.ho) (t' := { t with ty := m.ty, ho := m.ho }) rfl rfl
    have HB1 := Lib.hid (HB.out.trans ((hb1.mono HH.out.lt).trans hb3))
    have H3 := Lib.hid h3
    clear hb1 H1 h3 hb3
    go_wp2_with (fail)
    go_end0
    exact ⟨rfl, A, c, B, e, H3.out, HB1.out⟩
open Go.RowKit
theorem infoEv : (Tryd.prog.info? 48).map (fun i => (i.zero, i.size, i.bytes)) = some (some (.agg #[.string ⟨#[]⟩, .int .i64 0]), 2, 24) := by kernel_rfl
abbrev evC (y : Ev) : Array Value := #[.string y.h, .int .i64 y.y]
theorem run_append_ev (w : World) (ty : TypeId) (B : Nat) (A : Option Addr) (c : Nat) (l : List Ev) (hown : OwnE w B A c l) (b : Nat) (y : Ev) (hb : Blk w b 48 (evC y)) (hm : l.length ≤ 100000) (hB : B ≤ w.heap.size) :
    ∃ A' c' w', (Builtin.append_ #[39, 39] ty #[.slice A l.length c, .slice (some ⟨b, 0, none⟩) 1 1]).run Tryd.prog w = .ok (.slice A' (l.length + 1) c') w' ∧ OwnE w' B A' c' (l ++ [y]) ∧ w.grownBy w' (Value.slice A l.length c).ownBlock := by
  obtain ⟨i0, hi0, hz0, hz1, hz2⟩ := info_parts infoEv
  obtain ⟨v', w', h1, h2, h3, _, _⟩ := run_append_own_at (P := Tryd.prog) w B 39 ty 48 i0 _ 2 24 Tryd.underlying39 hi0 hz0 hz1 hz2 rfl (by omega) _ l.length _ hown ⟨b, 0, none⟩ 1 1 (evCells [y]) rfl (fun j u hu => by
    rw [Addr.add_lit, Nat.zero_add, hb.cell]
    match j, hu with
    | 0, hu => exact hu
    | 1, hu => exact hu) evCells_one (by unfold maxLen; omega) (by omega) hB
  obtain ⟨A', c', rfl⟩ := own_form h2
  refine ⟨A', c', w', h1, ?_, h3⟩
  unfold OwnE
  rw [List.length_append, evCells_append]
  exact h2
theorem step_ev {ops : Array Oper} {o : Oper} {a : Act} {w : World} {K : Act → World → Prop} {Q : Exit → Act → World → Prop} {E : Prop} (hgd : o.guard = none) (s x : Operand)
    (ho : o.op = .call { callee := .builtin .append, args := #[s, x], argTypes := #[39, 39] }) (B : Nat) (A : Option Addr) (c : Nat) (l : List Ev) (hs : a.eval s = .slice A l.length c) (hown : OwnE w B A c l)
    (b : Nat) (y : Ev) (hx : a.eval x = .slice (some ⟨b, 0, none⟩) 1 1) (hb : Blk w b 48 (evC y)) (hm : l.length ≤ 100000) (hB : B ≤ w.heap.size)
    (h : ∀ A' c' w', OwnE w' B A' c' (l ++ [y]) → w.grownBy w' (Value.slice A l.length c).ownBlock → K (a.put o.dst (.slice A' (l.length + 1) c')) w') :
    if Region.wanted o (yielded ops a.tmps) = true then Oper.wp Tryd.prog o a w K Q else E := by
  have hw : Region.wanted o (yielded ops a.tmps) = true := by simp [Region.wanted, hgd]
  rw [if_pos hw]
  obtain ⟨A', c', w', hr, h2, h3⟩ := run_append_ev w o.type B A c l hown b y hb hm hB
  unfold Oper.wp execOp
  simp only [ho, resolve, invoke, builtin, Sem.run_bind, Sem.run_pure, Result.andThen_ok, List.map_toArray, List.map_cons, List.map_nil, hs, hx, hr]
  exact h A' c' w' h2 h3
theorem step_clone {ops : Array Oper} {o : Oper} {a : Act} {w : World} {K : Act → World → Prop} {Q : Exit → Act → World → Prop} {E : Prop} (hgd : o.guard = none) (x : Operand)
    (ho : o.op = .call { callee := .value (.func 54), args := #[x], argTypes := #[9] }) (s : ByteArray) (hx : a.eval x = .string s) (hs : s.size ≤ 281474976710656)
    (h : ∀ w', Below w.heap.size w w' → K (a.put o.dst (.string s)) w') :
    if Region.wanted o (yielded ops a.tmps) = true then Oper.wp Tryd.prog o a w K Q else E := by
  have hw : Region.wanted o (yielded ops a.tmps) = true := by simp [Region.wanted, hgd]
  rw [if_pos hw]
  have hr : (execOp a.eval o).run Tryd.prog w = .ok (.enter 54 #[.string s]) w := by
    unfold execOp
    simp [ho, resolve, invoke, go_sem]
    revert hx
    cases x <;> simp [Act.eval]
  unfold Oper.wp
  rw [hr, Oper.upon_enter]
  refine (clone_any s w hs).mono ?_
  rintro e w' ⟨rfl, hb⟩
  exact h w' hb
/-- Those of a list whom a test means, told why. -/
def told (y : Int) (q : Rg → Bool) (l : List Rg) : List Ev := (l.filter q).map fun r => ⟨r.h, y⟩
theorem told_take (y : Int) (q : Rg → Bool) (l : List Rg) (k : Nat) (x : Rg) (hx : l[k]? = some x) : told y q (l.take (k + 1)) = told y q (l.take k) ++ (if q x then [⟨x.h, y⟩] else []) := by
  obtain ⟨hk, rfl⟩ := List.getElem?_eq_some_iff.1 hx
  unfold told
  rw [List.take_succ_eq_append_getElem hk, List.filter_append, List.map_append]
  congr 1
  by_cases h : q l[k] = true
  · rw [if_pos h, List.filter_cons_of_pos h]; rfl
  · rw [if_neg h, List.filter_cons_of_neg h]; rfl
theorem told_length (y : Int) (q : Rg → Bool) (l : List Rg) : (told y q l).length ≤ l.length := by
  unfold told
  rw [List.length_map]
  exact List.length_filter_le _ _
section
variable {w v : World} {n0 p : Nat} {A : Option Addr} {c : Nat} {t : Tl} {m : Cm} {B : Option Addr} {e : Nat} {es : List Ev}
/-- One more told. -/
theorem Chg.tell (h : Chg w n0 p A c t m B e es) {v : World} {B' : Option Addr} {e' : Nat} {es' : List Ev} (hg : w.grownBy v (Value.slice B es.length e).ownBlock) (ho : OwnE v n0 B' e' es') (hA : ∀ g, (Value.slice A t.rs.length c).ownBlock = some g → (Value.slice B es.length e).ownBlock ≠ some g) :
    Chg (v.setCell ⟨p, 19, none⟩ (.slice B' es'.length e')) n0 p A c t m B' e' es' ∧ Below n0 w (v.setCell ⟨p, 19, none⟩ (.slice B' es'.length e')) := by
  have hb := h.blk.grown hg (Ne.symm h.apart.2)
  have hr : Own v n0 A c t.rs := ⟨own_keep h.rgs.1 fun g hgg => hg.block g (h.rgs.1.lt g hgg).2 (Ne.symm (hA g hgg)), h.rgs.2⟩
  refine ⟨⟨hb.put 19 _, ⟨own_keep hr.1 fun g hgg => Below.heap_setCell v _ _ g (fun e => own_apart hr.1 hb (by decide) (hgg.trans (congrArg some e))), hr.2⟩, own_keep ho fun g hgg => Below.heap_setCell v _ _ g (fun e => own_apart ho hb (by decide) (hgg.trans (congrArg some e))), h.hp⟩, ?_⟩
  have b1 : Below n0 w v := (Only.of_below (S := fun k => (Value.slice B es.length e).ownBlock = some k) (Below.refl w.heap.size w)).grown hg (fun k hk => .inl hk) |>.toBelow h.lt (fun k hk => (h.evs.lt k hk).1)
  exact b1.trans (bel_put h.hp (Nat.le_trans h.lt hg.size) 19 _)
theorem Chg.rows (h : Chg w n0 p A c t m B e es) : ∀ g, (Value.slice A t.rs.length c).ownBlock = some g → (Value.slice B es.length e).ownBlock ≠ some g := by
  intro g hg hg'
  rcases h.rgs.1.2 with ⟨e1, _⟩ | ⟨g1, cap, cur, e1, _, hh, _⟩
  · rw [e1] at hg; simp [Value.ownBlock] at hg
  · rw [e1] at hg
    have e2 : g1 = g := by simpa [Value.ownBlock] using hg
    subst e2
    exact own_apart h.evs (t := 57) (cs := cur) hh (by decide) hg'
end
set_option maxRecDepth 100000 in
set_option maxHeartbeats 2000000 in
theorem notify_other (w : World) (n0 p : Nat) (A : Option Addr) (c : Nat) (t : Tl) (m : Cm) (B : Option Addr) (e : Nat) (es : List Ev) (y : Int) (h : Chg w n0 p A c t m B e es) (hx : ∀ x ∈ t.rs, x.h.size ≤ 1000) (hm : t.rs.length ≤ 1000) (he : es.length ≤ 1000) :
    Calls Tryd.prog 73 #[.pointer (some ⟨p, 0, none⟩), .int .i64 y, .func (.func 74) #[.pointer (some ⟨p, 0, none⟩)] #[]] w fun e w' => e = .returned (.tuple #[]) ∧ WrO n0 p t m (es ++ told y (isO m) t.rs) w w' := by
  have c0 := h.at_.r.rs
  have HQ := Lib.hid (fun v B' e' es' (hv : ChAt v p A c t m B' e' es') (x : Rg) => isOther_any x v p A c t m B' e' es' hv)
  have H := Lib.hid h; have HX := Lib.hid hx; have HEL := Lib.hid he
  clear h hx he
  obtain ⟨q, hq⟩ : ∃ q, q = (isO m) := ⟨_, rfl⟩
  rw [← hq] at HQ
  rw [← hq]
  clear hq
  go_enter Tryd.func73, Tryd.ntmps73
  go_wp2_with (fail)
  go_loopw [14] (fun i wr => ∃ k : Nat, k ≤ t.rs.length ∧ i = .int .i64 k ∧ Hid (∃ B' e', Chg wr n0 p A c t m B' e' (es ++ told y q (t.rs.take k)) ∧ Below n0 w wr)) (fun i _ => t.rs.length - (intOf i).toNat)
  case atStart => exact ⟨0, Nat.zero_le _, rfl, Lib.hid ⟨B, e, by show Chg w n0 p A c t m B e (es ++ []); rw [List.append_nil]; exact H.out, Below.refl _ _⟩⟩
  case round =>
    obtain ⟨k, hk, rfl, HR⟩ := hrel
    obtain ⟨B1, e1, hc1, hb1⟩ := HR.out
    have H1 := Lib.hid hc1; have HB1 := Lib.hid hb1
    clear hc1 hb1 HR
    by_cases hlt : k < t.rs.length
    · obtain ⟨b, o, x, rfl, hx, hz, d0, d1⟩ := (H1.out.rgs.rgs.at_ hlt)
      have HXS := Lib.hid (HX.out x (List.mem_of_getElem? hx))
      have HTK := Lib.hid (told_take y q t.rs k x hx); clear hx
      obtain ⟨g1, g2, g3⟩ := rg_box wr x _ rfl
      have HBx := Lib.hid g1; have H2 := Lib.hid (H1.out.below g2); have HB2 := Lib.hid (HB1.out.trans (g2.mono H1.out.lt))
      clear g1 g2 g3 c0
      go_upto_region 3 with (fail)
      change Code.wp _ _ _ _ (wr.alloc (.cells (regC x) 57))
      generalize wr.alloc (.cells (regC x) 57) = w2 at *
      have k0 : w2.cell? ⟨wr.heap.size, 0, none⟩ = some (.string x.h) := HBx.out.cell 0
      have k1 : w2.cell? ⟨wr.heap.size, 1, none⟩ = some (.int .u64 x.k) := HBx.out.cell 1
      clear d0 d1
      have HQ2 := Lib.hid (HQ.out _ _ _ _ H2.out.at_ x)
      cases hqx : q x with
      | false =>
        rw [hqx] at HQ2 HTK
        clear hqx
        go_wp2_with (fail)
        refine HQ2.out.mono ?_; rintro e w3 ⟨rfl, hb3⟩
        have H3 := Lib.hid (H2.out.below hb3); have HB3 := Lib.hid (HB2.out.trans (hb3.mono H2.out.lt))
        clear hb3 k0 k1
        go_wp2_with (fail)
        go_roundw
        case rel => exact ⟨k + 1, by omega, by go_num, Lib.hid ⟨B1, e1, by rw [HTK.out]; simpa using H3.out, HB3.out⟩⟩
        case measure => simp [intOf]; omega
      | true =>
        rw [hqx] at HQ2 HTK
        clear hqx
        go_wp2_with (fail)
        refine HQ2.out.mono ?_; rintro e w3 ⟨rfl, hb3⟩
        have H3 := Lib.hid (H2.out.below hb3); have HB3 := Lib.hid (HB2.out.trans (hb3.mono H2.out.lt))
        have HBx3 := Lib.hid (HBx.out.below hb3 HBx.out.lt)
        clear hb3 k0 k1
        have k0 : w3.cell? ⟨wr.heap.size, 0, none⟩ = some (.string x.h) := HBx3.out.cell 0
        have e19 : w3.cell? ⟨p, 19, none⟩ = some (.slice B1 (es ++ told y q (t.rs.take k)).length e1) := H3.out.blk.cell 19
        have HLn : Hid ((es ++ told y q (t.rs.take k)).length ≤ 2000) := by
          have a1 := told_length y q (t.rs.take k)
          have a2 := HEL.out
          have a3 : (t.rs.take k).length ≤ k := by rw [List.length_take]; exact Nat.min_le_left _ _
          show (es ++ told y q (t.rs.take k)).length ≤ 2000
          rw [List.length_append]
          omega
        have HTE := Lib.hid (show es ++ told y q (t.rs.take (k + 1)) = (es ++ told y q (t.rs.take k)) ++ [⟨x.h, y⟩] from by rw [HTK.out]; simp)
        clear HTK
        generalize es ++ told y q (t.rs.take k) = ek at *
        go_upto_region 4 with (fail)
        go_region_law (first
          | (refine step_clone (by rfl) (.tmp 27) (by rfl) x.h (by rfl) (by have := HXS.out; omega) ?_
             intro w5 hb5
             have H5 := Lib.hid (H3.out.below ((Below.refl w3.heap.size w3).drew.trans hb5)); have HB5 := Lib.hid (HB3.out.trans (((Below.refl w3.heap.size w3).drew.trans hb5).mono H3.out.lt))
             have e5 : w5.cell? ⟨p, 19, none⟩ = some (.slice B1 ek.length e1) := H5.out.blk.cell 19
             have hal := (Below.refl w5.heap.size w5).alloc (Nat.le_refl _) (.cells (evC ⟨x.h, y⟩) 48)
             have H6 := Lib.hid (H5.out.below hal); have HB6 := Lib.hid (HB5.out.trans (hal.mono H5.out.lt))
             have e6 : (w5.alloc (.cells (evC ⟨x.h, y⟩) 48)).cell? ⟨p, 19, none⟩ = some (.slice B1 ek.length e1) := H6.out.blk.cell 19
             clear hb5 hal)
          | (refine step_ev (by rfl) (.tmp 25) (.tmp 31) (by rfl) n0 B1 e1 ek (by rfl) H6.out.evs w5.heap.size ⟨x.h, y⟩ (by rfl) (Blk.new w5 48 _) (by have := HLn.out; omega) H6.out.lt ?_
             intro A7 c7 w7 ho7 hg7
             have b7 := H6.out.blk.grown hg7 (Ne.symm H6.out.apart.2)
             have f7 := b7.free 19
             have e7 : w7.cell? ⟨p, 19, none⟩ = some (.slice B1 ek.length e1) := b7.cell 19
             have H7 := Lib.hid (H6.out.tell hg7 ho7 H6.out.rows)
             clear ho7 hg7 b7))
        all_goals (
          go_wp2_with (fail)
          go_roundw
          case rel => exact ⟨k + 1, by omega, by go_num, Lib.hid ⟨A7, c7, by rw [HTE.out]; have := H7.out.1; simpa using this, HB6.out.trans (by have := H7.out.2; simpa using this)⟩⟩
          case measure => simp [intOf]; omega)
    · obtain rfl : k = t.rs.length := by omega
      go_wp2_with (fail)
      go_end0
      have := H1.out
      rw [List.take_length] at this
      exact ⟨rfl, A, c, B1, e1, this, HB1.out⟩
set_option maxRecDepth 100000 in
set_option maxHeartbeats 2000000 in
theorem notify_rem (w : World) (n0 p : Nat) (A : Option Addr) (c : Nat) (t : Tl) (m : Cm) (B : Option Addr) (e : Nat) (es : List Ev) (y : Int) (h : Chg w n0 p A c t m B e es) (hx : ∀ x ∈ t.rs, x.h.size ≤ 1000) (hm : t.rs.length ≤ 1000) (he : es.length ≤ 1000) :
    Calls Tryd.prog 73 #[.pointer (some ⟨p, 0, none⟩), .int .i64 y, .func (.func 77) #[.pointer (some ⟨p, 0, none⟩)] #[]] w fun e w' => e = .returned (.tuple #[]) ∧ WrO n0 p t m (es ++ told y (isR t m) t.rs) w w' := by
  have c0 := h.at_.r.rs
  have HQ := Lib.hid (fun v B' e' es' (hv : ChAt v p A c t m B' e' es') (x : Rg) => removes_any x v p A c t m B' e' es' hv)
  have H := Lib.hid h; have HX := Lib.hid hx; have HEL := Lib.hid he
  clear h hx he
  obtain ⟨q, hq⟩ : ∃ q, q = (isR t m) := ⟨_, rfl⟩
  rw [← hq] at HQ
  rw [← hq]
  clear hq
  go_enter Tryd.func73, Tryd.ntmps73
  go_wp2_with (fail)
  go_loopw [14] (fun i wr => ∃ k : Nat, k ≤ t.rs.length ∧ i = .int .i64 k ∧ Hid (∃ B' e', Chg wr n0 p A c t m B' e' (es ++ told y q (t.rs.take k)) ∧ Below n0 w wr)) (fun i _ => t.rs.length - (intOf i).toNat)
  case atStart => exact ⟨0, Nat.zero_le _, rfl, Lib.hid ⟨B, e, by show Chg w n0 p A c t m B e (es ++ []); rw [List.append_nil]; exact H.out, Below.refl _ _⟩⟩
  case round =>
    obtain ⟨k, hk, rfl, HR⟩ := hrel
    obtain ⟨B1, e1, hc1, hb1⟩ := HR.out
    have H1 := Lib.hid hc1; have HB1 := Lib.hid hb1
    clear hc1 hb1 HR
    by_cases hlt : k < t.rs.length
    · obtain ⟨b, o, x, rfl, hx, hz, d0, d1⟩ := (H1.out.rgs.rgs.at_ hlt)
      have HXS := Lib.hid (HX.out x (List.mem_of_getElem? hx))
      have HTK := Lib.hid (told_take y q t.rs k x hx); clear hx
      obtain ⟨g1, g2, g3⟩ := rg_box wr x _ rfl
      have HBx := Lib.hid g1; have H2 := Lib.hid (H1.out.below g2); have HB2 := Lib.hid (HB1.out.trans (g2.mono H1.out.lt))
      clear g1 g2 g3 c0
      go_upto_region 3 with (fail)
      change Code.wp _ _ _ _ (wr.alloc (.cells (regC x) 57))
      generalize wr.alloc (.cells (regC x) 57) = w2 at *
      have k0 : w2.cell? ⟨wr.heap.size, 0, none⟩ = some (.string x.h) := HBx.out.cell 0
      have k1 : w2.cell? ⟨wr.heap.size, 1, none⟩ = some (.int .u64 x.k) := HBx.out.cell 1
      clear d0 d1
      have HQ2 := Lib.hid (HQ.out _ _ _ _ H2.out.at_ x)
      cases hqx : q x with
      | false =>
        rw [hqx] at HQ2 HTK
        clear hqx
        go_wp2_with (fail)
        refine HQ2.out.mono ?_; rintro e w3 ⟨rfl, hb3⟩
        have H3 := Lib.hid (H2.out.below hb3); have HB3 := Lib.hid (HB2.out.trans (hb3.mono H2.out.lt))
        clear hb3 k0 k1
        go_wp2_with (fail)
        go_roundw
        case rel => exact ⟨k + 1, by omega, by go_num, Lib.hid ⟨B1, e1, by rw [HTK.out]; simpa using H3.out, HB3.out⟩⟩
        case measure => simp [intOf]; omega
      | true =>
        rw [hqx] at HQ2 HTK
        clear hqx
        go_wp2_with (fail)
        refine HQ2.out.mono ?_; rintro e w3 ⟨rfl, hb3⟩
        have H3 := Lib.hid (H2.out.below hb3); have HB3 := Lib.hid (HB2.out.trans (hb3.mono H2.out.lt))
        have HBx3 := Lib.hid (HBx.out.below hb3 HBx.out.lt)
        clear hb3 k0 k1
        have k0 : w3.cell? ⟨wr.heap.size, 0, none⟩ = some (.string x.h) := HBx3.out.cell 0
        have e19 : w3.cell? ⟨p, 19, none⟩ = some (.slice B1 (es ++ told y q (t.rs.take k)).length e1) := H3.out.blk.cell 19
        have HLn : Hid ((es ++ told y q (t.rs.take k)).length ≤ 2000) := by
          have a1 := told_length y q (t.rs.take k)
          have a2 := HEL.out
          have a3 : (t.rs.take k).length ≤ k := by rw [List.length_take]; exact Nat.min_le_left _ _
          show (es ++ told y q (t.rs.take k)).length ≤ 2000
          rw [List.length_append]
          omega
        have HTE := Lib.hid (show es ++ told y q (t.rs.take (k + 1)) = (es ++ told y q (t.rs.take k)) ++ [⟨x.h, y⟩] from by rw [HTK.out]; simp)
        clear HTK
        generalize es ++ told y q (t.rs.take k) = ek at *
        go_upto_region 4 with (fail)
        go_region_law (first
          | (refine step_clone (by rfl) (.tmp 27) (by rfl) x.h (by rfl) (by have := HXS.out; omega) ?_
             intro w5 hb5
             have H5 := Lib.hid (H3.out.below ((Below.refl w3.heap.size w3).drew.trans hb5)); have HB5 := Lib.hid (HB3.out.trans (((Below.refl w3.heap.size w3).drew.trans hb5).mono H3.out.lt))
             have e5 : w5.cell? ⟨p, 19, none⟩ = some (.slice B1 ek.length e1) := H5.out.blk.cell 19
             have hal := (Below.refl w5.heap.size w5).alloc (Nat.le_refl _) (.cells (evC ⟨x.h, y⟩) 48)
             have H6 := Lib.hid (H5.out.below hal); have HB6 := Lib.hid (HB5.out.trans (hal.mono H5.out.lt))
             have e6 : (w5.alloc (.cells (evC ⟨x.h, y⟩) 48)).cell? ⟨p, 19, none⟩ = some (.slice B1 ek.length e1) := H6.out.blk.cell 19
             clear hb5 hal)
          | (refine step_ev (by rfl) (.tmp 25) (.tmp 31) (by rfl) n0 B1 e1 ek (by rfl) H6.out.evs w5.heap.size ⟨x.h, y⟩ (by rfl) (Blk.new w5 48 _) (by have := HLn.out; omega) H6.out.lt ?_
             intro A7 c7 w7 ho7 hg7
             have b7 := H6.out.blk.grown hg7 (Ne.symm H6.out.apart.2)
             have f7 := b7.free 19
             have e7 : w7.cell? ⟨p, 19, none⟩ = some (.slice B1 ek.length e1) := b7.cell 19
             have H7 := Lib.hid (H6.out.tell hg7 ho7 H6.out.rows)
             clear ho7 hg7 b7))
        all_goals (
          go_wp2_with (fail)
          go_roundw
          case rel => exact ⟨k + 1, by omega, by go_num, Lib.hid ⟨A7, c7, by rw [HTE.out]; have := H7.out.1; simpa using this, HB6.out.trans (by have := H7.out.2; simpa using this)⟩⟩
          case measure => simp [intOf]; omega)
    · obtain rfl : k = t.rs.length := by omega
      go_wp2_with (fail)
      go_end0
      have := H1.out
      rw [List.take_length] at this
      exact ⟨rfl, A, c, B1, e1, this, HB1.out⟩
open Go.RowKit
def endT (t : Tl) : Tl := { t with ty := 0, ho := ⟨#[]⟩ }
def endE (t : Tl) (m : Cm) (es : List Ev) : List Ev := if t.ty = 1 ∨ t.ty = 2 then es else es ++ told 3 (isO m) t.rs
theorem Chg.ended {w : World} {n0 p : Nat} {A : Option Addr} {c : Nat} {t : Tl} {m : Cm} {B : Option Addr} {e : Nat} {es : List Ev} (h : Chg w n0 p A c t m B e es) :
    Chg ((w.setCell ⟨p, 1, none⟩ (.int .i64 0)).setCell ⟨p, 2, none⟩ (.string ⟨#[]⟩)) n0 p A c (endT t) m B e es ∧ Below n0 w ((w.setCell ⟨p, 1, none⟩ (.int .i64 0)).setCell ⟨p, 2, none⟩ (.string ⟨#[]⟩)) := by
  obtain ⟨h1, hb1⟩ := h.put 1 (.int .i64 0) (t' := { t with ty := 0 }) rfl rfl
  obtain ⟨h2, hb2⟩ := h1.put 2 (.string ⟨#[]⟩) (t' := endT t) rfl rfl
  exact ⟨h2, hb1.trans hb2⟩
set_option maxHeartbeats 1000000 in
theorem end_any (w : World) (n0 p : Nat) (A : Option Addr) (c : Nat) (t : Tl) (m : Cm) (B : Option Addr) (e : Nat) (es : List Ev) (h : Chg w n0 p A c t m B e es) (hx : ∀ x ∈ t.rs, x.h.size ≤ 1000) (hm : t.rs.length ≤ 1000) (he : es.length ≤ 1000) :
    Calls Tryd.prog 72 #[.pointer (some ⟨p, 0, none⟩)] w fun e w' => e = .returned (.tuple #[]) ∧ WrO n0 p (endT t) m (endE t m es) w w' := by
  have hmf : ∀ (fn : Fn) (first cap : Array Value) (w : World), (Instr.makeFunc fn first cap).run Tryd.prog w = .ok (.func fn first cap) w := fun _ _ _ _ => rfl
  have c1 := h.at_.r.ty
  have c2 := h.at_.r.hh
  have f1 := h.blk.free 1
  have f2 := h.blk.free 2
  have hf : endE t m es = if t.ty = 1 ∨ t.ty = 2 then es else es ++ told 3 (isO m) t.rs := rfl
  have H := Lib.hid h
  have HN := Lib.hid (notify_other w n0 p A c t m B e es 3 h hx hm he)
  clear h hx hm he
  cases e1 : (t.ty == 1) with
  | true =>
    rw [if_pos (.inl (eqB e1))] at hf
    rw [hf]; clear hf HN
    have n1 : (t.ty != 1) = false := by show (!(t.ty == 1)) = false; rw [e1]; rfl
    go_enter Tryd.func72, Tryd.ntmps72
    go_wp2_with (fail)
    go_end0
    exact ⟨rfl, A, c, B, e, H.out.ended.1, H.out.ended.2⟩
  | false =>
    cases e2 : (t.ty == 2) with
    | true =>
      rw [if_pos (.inr (eqB e2))] at hf
      rw [hf]; clear hf HN
      have n1 : (t.ty != 1) = true := by show (!(t.ty == 1)) = true; rw [e1]; rfl
      have n2 : (t.ty != 2) = false := by show (!(t.ty == 2)) = false; rw [e2]; rfl
      go_enter Tryd.func72, Tryd.ntmps72
      go_wp2_with (fail)
      go_end0
      exact ⟨rfl, A, c, B, e, H.out.ended.1, H.out.ended.2⟩
    | false =>
      rw [if_neg (fun h => h.elim (neB e1) (neB e2))] at hf
      rw [hf]; clear hf
      have n1 : (t.ty != 1) = true := by show (!(t.ty == 1)) = true; rw [e1]; rfl
      have n2 : (t.ty != 2) = true := by show (!(t.ty == 2)) = true; rw [e2]; rfl
      clear e1 e2
      generalize es ++ told 3 (isO m) t.rs = es1 at *
      go_enter Tryd.func72, Tryd.ntmps72
      go_wp2_with (fail)
      refine HN.out.mono ?_; rintro e w1 ⟨rfl, A1, d1, B1, g1, hc1, hb1⟩
      have H1 := Lib.hid hc1; have HB1 := Lib.hid hb1
      have c1 := hc1.at_.r.ty
      have c2 := hc1.at_.r.hh
      have f1 := hc1.blk.free 1
      have f2 := hc1.blk.free 2
      clear hc1 hb1
      go_wp2_with (fail)
      go_end0
      exact ⟨rfl, A1, d1, B1, g1, H1.out.ended.1, HB1.out.trans H1.out.ended.2⟩
open Go.RowKit
/-- Block g is a row of registrations with room for c: its first ones are l. -/
def RowR (w : World) (g c : Nat) (l : List Rg) : Prop :=
  ∃ junk : List Value, Blk w g 57 (rgCells l ++ junk).toArray ∧ l.length * 2 + junk.length = c * 2 ∧ c ≤ maxLen
theorem RowR.le {w : World} {g c : Nat} {l : List Rg} (h : RowR w g c l) : l.length ≤ c := by obtain ⟨j, _, h, _⟩ := h; omega
theorem RowR.lt {w : World} {g c : Nat} {l : List Rg} (h : RowR w g c l) : g < w.heap.size := by obtain ⟨j, h, _⟩ := h; exact h.lt
theorem RowR.keep {w w' : World} {g c : Nat} {l : List Rg} (h : RowR w g c l) (hk : w'.heap[g]? = w.heap[g]?) : RowR w' g c l := by
  obtain ⟨j, hb, hr⟩ := h
  exact ⟨j, hk.trans hb, hr⟩
theorem RowR.below {w w' : World} {g c : Nat} {l : List Rg} (h : RowR w g c l) (hb : Below w.heap.size w w') : RowR w' g c l := h.keep (hb.block g h.lt)
theorem RowR.free {w : World} {g c : Nat} {l : List Rg} (h : RowR w g c l) (i : Nat) : w.frozen? ⟨g, i, none⟩ = false := by obtain ⟨j, hb, _⟩ := h; exact hb.free i
theorem RowR.cells {w : World} {g c : Nat} {l : List Rg} (h : RowR w g c l) {j : Nat} {x : Rg} (hj : l[j]? = some x) : w.cell? ⟨g, j * 2, none⟩ = some (.string x.h) ∧ w.cell? ⟨g, j * 2 + 1, none⟩ = some (.int .u64 x.k) := by
  obtain ⟨junk, hb, _⟩ := h
  have hlt := (List.getElem?_eq_some_iff.1 hj).1
  obtain ⟨g0, g1⟩ := rgCells_get hj
  rw [hb.cell, hb.cell]
  have hl := rgCells_length l
  constructor
  · simpa [List.getElem?_append_left (show j * 2 < (rgCells l).length by omega)] using g0
  · simpa [List.getElem?_append_left (show j * 2 + 1 < (rgCells l).length by omega)] using g1
theorem RowR.rgs {w : World} {g c : Nat} {l : List Rg} (h : RowR w g c l) (hs : ∀ x ∈ l, x.h.size ≤ maxLen) : Rgs w (some ⟨g, 0, none⟩) l := fun _ =>
  ⟨g, 0, rfl, fun j x hj => ⟨hs x (List.mem_of_getElem? hj), by rw [Nat.zero_add]; exact (h.cells hj).1, by rw [Nat.zero_add]; exact (h.cells hj).2⟩⟩
theorem RowR.own {w : World} {g c B : Nat} {l : List Rg} (h : RowR w g c l) (hB : B ≤ g) (hs : ∀ x ∈ l, x.h.size ≤ maxLen) : Own w B (some ⟨g, 0, none⟩) c l := by
  obtain ⟨junk, hb, hl, hc⟩ := h
  have e := rgCells_length l
  refine ⟨⟨e, .inr ⟨g, c, _, rfl, hB, hb, by omega, hc, by simp; omega, ?_⟩⟩, hs⟩
  rw [← e]
  simp
theorem RowR.of {w : World} {B c : Nat} {A : Option Addr} {l : List Rg} (h : Own w B A c l) (hn : 0 < l.length) : ∃ g, A = some ⟨g, 0, none⟩ ∧ B ≤ g ∧ RowR w g c l := by
  rcases h.1.2 with ⟨_, h0⟩ | ⟨g, cap, cur, hv, hb, hg, hnc, hm, hs, ht⟩
  · omega
  · injection hv with hA _ hcc
    subst hcc
    refine ⟨g, hA, hb, cur.toList.drop (l.length * 2), ?_, ?_, hm⟩
    · rw [← ht, List.take_append_drop]
      exact hg
    · have : cur.toList.length = c * 2 := by rw [Array.length_toList]; exact hs
      show l.length * 2 + (cur.toList.drop (l.length * 2)).length = c * 2
      rw [List.length_drop, this]
      omega
/-- Fewer of them. -/
theorem RowR.take {w : World} {g c : Nat} {l : List Rg} (h : RowR w g c l) (i : Nat) : RowR w g c (l.take i) := by
  obtain ⟨junk, hb, hl, hc⟩ := h
  refine ⟨rgCells (l.drop i) ++ junk, ?_, ?_, hc⟩
  · rw [← List.append_assoc, ← rgCells_append, List.take_append_drop]
    exact hb
  · rw [List.length_append, rgCells_length, List.length_take, List.length_drop]
    omega
theorem rgCells_set : ∀ (l : List Rg) (i : Nat) (x : Rg), i < l.length → rgCells (l.set i x) = ((rgCells l).set (i * 2) (.string x.h)).set (i * 2 + 1) (.int .u64 x.k)
  | y :: l, 0, x, _ => rfl
  | y :: l, i + 1, x, h => by
    have := rgCells_set l i x (by simpa using h)
    show _ :: _ :: rgCells (l.set i x) = _
    rw [this, show (i + 1) * 2 = i * 2 + 1 + 1 by omega]
    rfl
theorem RowR.put {w : World} {g c : Nat} {l : List Rg} (h : RowR w g c l) (i : Nat) (x : Rg) (hi : i < l.length) : RowR ((w.setCell ⟨g, i * 2, none⟩ (.string x.h)).setCell ⟨g, i * 2 + 1, none⟩ (.int .u64 x.k)) g c (l.set i x) := by
  obtain ⟨junk, hb, hl, hc⟩ := h
  refine ⟨junk, ?_, by rw [List.length_set]; exact hl, hc⟩
  have := (hb.put (i * 2) (.string x.h)).put (i * 2 + 1) (.int .u64 x.k)
  have e := rgCells_length l
  have hE : ((rgCells l ++ junk).toArray.setIfInBounds (i * 2) (Value.string x.h)).setIfInBounds (i * 2 + 1) (Value.int IntKind.u64 x.k) = (rgCells (l.set i x) ++ junk).toArray := by
    rw [rgCells_set l i x hi]
    apply Array.toList_inj.1
    simp only [Array.toList_setIfInBounds]
    rw [List.set_append_left _ _ (by omega), List.set_append_left _ _ (by rw [List.length_set]; omega)]
  rw [hE] at this
  exact this
theorem setRow_blk {w : World} {g : Nat} {T : TypeId} {cs cs' : Array Value} (h : Blk w g T cs) : Blk (w.setRow g cs') g T cs' := setRow_heap w g cs cs' T (0, 0) h
theorem setRow_only (w : World) (g : Nat) (cs : Array Value) : Only (fun k => k = g) w (w.setRow g cs) :=
  ⟨rfl, rfl, rfl, by simp [World.setRow], fun k _ hk => setRow_other w g k cs hk⟩
abbrev rgZ : Rg := ⟨⟨#[]⟩, 0⟩
theorem zeroCells_rg (n : Nat) : (Builtin.zeroCells #[.string ⟨#[]⟩, .int .u64 0] n).toList = rgCells (List.replicate n rgZ) := by
  apply List.ext_getElem?
  intro i
  have hl := rgCells_length (List.replicate n rgZ)
  rw [List.length_replicate] at hl
  by_cases hi : i < n * 2
  · have hr : (List.replicate n rgZ)[i / 2]? = some rgZ := by rw [List.getElem?_replicate, if_pos (by omega)]
    obtain ⟨g0, g1⟩ := rgCells_get hr
    have e : (Builtin.zeroCells #[.string ⟨#[]⟩, .int .u64 0] n).toList[i]? = some ((#[Value.string ⟨#[]⟩, .int .u64 0] : Array Value)[i % 2]!) := by
      simp [Builtin.zeroCells, hi]
    rw [e]
    rcases (show i % 2 = 0 ∨ i % 2 = 1 by omega) with h | h
    · rw [h, show i = i / 2 * 2 by omega, g0]; rfl
    · rw [h, show i = i / 2 * 2 + 1 by omega, g1]; rfl
  · rw [List.getElem?_eq_none (l := rgCells (List.replicate n rgZ)) (by rw [hl]; omega)]
    exact List.getElem?_eq_none (by simp [Builtin.zeroCells]; omega)
theorem rgCells_drop : ∀ (l : List Rg) (i : Nat), (rgCells l).drop (i * 2) = rgCells (l.drop i)
  | l, 0 => by simp
  | [], i + 1 => by simp [rgCells]
  | y :: l, i + 1 => by
    rw [show (i + 1) * 2 = i * 2 + 1 + 1 by omega]
    exact rgCells_drop l i
theorem rgCells_take : ∀ (l : List Rg) (i : Nat), (rgCells l).take (i * 2) = rgCells (l.take i)
  | l, 0 => by simp [rgCells]
  | [], i + 1 => by simp [rgCells]
  | y :: l, i + 1 => by
    rw [show (i + 1) * 2 = i * 2 + 1 + 1 by omega]
    show _ :: _ :: (rgCells l).take (i * 2) = _
    rw [rgCells_take l i]
    rfl
/-- Some of them in the middle laid anew. -/
theorem RowR.laid {w : World} {g c : Nat} {l : List Rg} (cur : Array Value) (hb : Blk w g 57 cur) (junk : List Value) (hcur : cur = (rgCells l ++ junk).toArray) (hl : l.length * 2 + junk.length = c * 2) (hc : c ≤ maxLen) (i : Nat) (news : List Rg) (hi : i + news.length ≤ l.length) :
    RowR (w.setRow g (cur.toList.take (i * 2) ++ rgCells news ++ cur.toList.drop (i * 2 + (rgCells news).length)).toArray) g c (l.take i ++ news ++ l.drop (i + news.length)) := by
  have e := rgCells_length l
  refine ⟨junk, ?_, by simp only [List.length_append, List.length_take, List.length_drop]; omega, hc⟩
  have h1 : cur.toList.take (i * 2) = rgCells (l.take i) := by
    rw [hcur]
    show (rgCells l ++ junk).take (i * 2) = _
    rw [List.take_append_of_le_length (by omega), rgCells_take]
  have h2 : cur.toList.drop (i * 2 + (rgCells news).length) = rgCells (l.drop (i + news.length)) ++ junk := by
    rw [hcur, rgCells_length]
    show (rgCells l ++ junk).drop (i * 2 + news.length * 2) = _
    rw [List.drop_append_of_le_length (by omega), ← rgCells_drop, show i * 2 + news.length * 2 = (i + news.length) * 2 by omega]
  rw [h1, h2, ← List.append_assoc, ← rgCells_append, ← rgCells_append]
  exact setRow_blk hb
theorem run_clear_rgs (w : World) (ty : TypeId) (g c cc : Nat) (l : List Rg) (h : RowR w g c l) (i n : Nat) (hn : 0 < n) (hi : i + n = l.length) :
    ∃ w', (Builtin.clear_ #[22] ty #[.slice (some ⟨g, i * 2, none⟩) n cc]).run Tryd.prog w = .ok (.tuple #[]) w' ∧ RowR w' g c (l.take i ++ List.replicate n rgZ) ∧ Only (fun k => k = g) w w' := by
  obtain ⟨junk, hb, hl, hc⟩ := h
  have e := rgCells_length l
  have hz := zeroCells_rg n
  have ez : (rgCells (List.replicate n rgZ)).length = n * 2 := by rw [rgCells_length, List.length_replicate]
  have hst := run_storeCells_at Tryd.prog g (i * 2) 57 (rgCells (List.replicate n rgZ)) 0 _ w hb (by rw [ez]; simp; omega) rgCells_one
  have hR := RowR.laid _ hb junk rfl hl hc i (List.replicate n rgZ) (by rw [List.length_replicate]; omega)
  rw [List.length_replicate, List.drop_eq_nil_of_le (show l.length ≤ i + n by omega), List.append_nil] at hR
  refine ⟨_, ?_, hR, setRow_only _ _ _⟩
  simp only [Nat.add_zero] at hst
  obtain ⟨m, rfl⟩ : ∃ m, n = m + 1 := ⟨n - 1, by omega⟩
  have hz2 : (Builtin.zeroCells (Value.agg #[.string ⟨#[]⟩, .int .u64 0]).cells (m + 1)).toList = rgCells (List.replicate (m + 1) rgZ) := hz
  simp only [Builtin.clear_]
  simp [run_underlying Tryd.underlying22]
  rw [hz2, hst]
  simp
open Go.RowKit
/-- 'append(s[:i], s[i+1:]...)' over s's own row. -/
theorem step_shift {ops : Array Oper} {o : Oper} {a : Act} {w : World} {K : Act → World → Prop} {Q : Exit → Act → World → Prop} {E : Prop} (hgd : o.guard = none) (s x : Operand)
    (ho : o.op = .call { callee := .builtin .append, args := #[s, x], argTypes := #[22, 22] }) (g c : Nat) (l : List Rg) (i : Nat) (hi : i < l.length) (h : RowR w g c l)
    (hs : a.eval s = .slice (some ⟨g, 0, none⟩) i c) (A : Addr) (cc : Nat) (hx : a.eval x = .slice (some A) (l.length - (i + 1)) cc) (hA : 0 < l.length - (i + 1) → A = ⟨g, (i + 1) * 2, none⟩)
    (hK : ∀ w', RowR w' g c (l.take i ++ l.drop (i + 1) ++ l.drop (l.length - 1)) → Only (fun k => k = g) w w' → K (a.put o.dst (.slice (some ⟨g, 0, none⟩) (l.length - 1) c)) w') :
    if Region.wanted o (yielded ops a.tmps) = true then Oper.wp Tryd.prog o a w K Q else E := by
  have hw : Region.wanted o (yielded ops a.tmps) = true := by simp [Region.wanted, hgd]
  rw [if_pos hw]
  obtain ⟨i0, hi0, hz0, hz1, hz2⟩ := info_parts infoReg
  obtain ⟨junk, hb, hl, hc⟩ := h
  have e := rgCells_length l
  have ed : (rgCells (l.drop (i + 1))).length = (l.length - (i + 1)) * 2 := by rw [rgCells_length, List.length_drop]
  have hnews : ∀ j u, (rgCells (l.drop (i + 1)))[j]? = some u → w.cell? (A.add j) = some u := by
    intro j u hu
    have hj := (List.getElem?_eq_some_iff.1 hu).1
    rw [hA (by omega), Addr.add_lit, hb.cell]
    rw [← rgCells_drop, List.getElem?_drop] at hu
    have hq : ((rgCells l ++ junk).toArray)[(i + 1) * 2 + j]? = (rgCells l)[(i + 1) * 2 + j]? := by
      rw [List.getElem?_toArray, List.getElem?_append_left (by omega)]
    exact hq.trans hu
  have hr := run_append_room (P := Tryd.prog) w 22 o.type 57 i0 Tryd.underlying22 hi0 g i c _ hb A (l.length - (i + 1)) cc (rgCells (l.drop (i + 1))) (by rw [ed, hz1]) hnews rgCells_one (by omega) (by rw [ed, hz1]; simp; omega)
  rw [hz1, show i + (l.length - (i + 1)) = l.length - 1 by omega] at hr
  have hR := RowR.laid _ hb junk rfl hl hc i (l.drop (i + 1)) (by rw [List.length_drop]; omega)
  rw [List.length_drop, show i + (l.length - (i + 1)) = l.length - 1 by omega] at hR
  unfold Oper.wp execOp
  simp only [ho, resolve, invoke, builtin, Sem.run_bind, Sem.run_pure, Result.andThen_ok, List.map_toArray, List.map_cons, List.map_nil, hs, hx, hr]
  exact hK _ hR (setRow_only _ _ _)
set_option maxRecDepth 100000 in
set_option maxHeartbeats 2000000 in
theorem delete_any (w : World) (g c : Nat) (l : List Rg) (i : Nat) (hi : i < l.length) (h : RowR w g c l) (hm : l.length ≤ 1000) :
    Calls Tryd.prog 80 #[.slice (some ⟨g, 0, none⟩) l.length c, .int .i64 i, .int .i64 ((i : Int) + 1)] w fun e w' => e = .returned (.slice (some ⟨g, 0, none⟩) (l.length - 1) c) ∧ RowR w' g c (l.take i ++ l.drop (i + 1)) ∧ Only (fun k => k = g) w w' := by
  have hle := h.le
  have hii : (i : Int) < l.length := by omega
  have hic : i ≤ c := by omega
  have hi1 : i + 1 ≤ l.length := hi
  have hi2 : (i : Int) + 1 ≤ l.length := by omega
  have hi3 : 0 ≤ (i : Int) + 1 := by omega
  have hne : ((i : Int) == (i : Int) + 1) = false := by rw [int_beq]; exact decide_eq_false (by omega)
  obtain ⟨Ad, hAd, hA⟩ : ∃ Ad : Addr, (if c = i + 1 then some (⟨g, 0, none⟩ : Addr) else some ⟨g, (i + 1) * 2, none⟩) = some Ad ∧ (0 < l.length - (i + 1) → Ad = ⟨g, (i + 1) * 2, none⟩) := by
    by_cases h : c = i + 1
    · exact ⟨_, by rw [if_pos h], fun h' => by omega⟩
    · exact ⟨_, by rw [if_neg h], fun _ => rfl⟩
  have HR := Lib.hid h; have HA := Lib.hid hA
  clear h hA
  go_enter Tryd.func80, Tryd.ntmps80
  go_upto_region 5 with (fail)
  go_region_law (first
    | (refine step_shift (by rfl) (.tmp 22) (.tmp 25) (by rfl) g c l i hi HR.out (by rfl) Ad _ (by rfl) HA.out ?_
       intro w5 hr5 ho5
       have R5 := Lib.hid hr5; have O5 := Lib.hid ((Only.refl (fun k => k = g) w).drew.trans ho5 (fun _ hk => .inl hk))
       clear hr5 ho5)
    | fail)
  all_goals (
    have q1 : l.length - 1 ≤ l.length := by omega
    have q2 : ¬ c = l.length - 1 := by omega
    have q3 : l.length - (l.length - 1) = 1 := by omega
    have R5b : Hid ((l.take i ++ l.drop (i + 1) ++ l.drop (l.length - 1)).length = l.length) := by
      show (l.take i ++ l.drop (i + 1) ++ l.drop (l.length - 1)).length = l.length
      simp only [List.length_append, List.length_take, List.length_drop]; omega
    obtain ⟨w6, hcl, hr6, ho6⟩ := run_clear_rgs w5 0 g c (c - (l.length - 1)) _ R5.out (l.length - 1) 1 (by omega) (by rw [R5b.out]; omega)
    have R6 := Lib.hid hr6; have O6 := Lib.hid (O5.out.trans ho6 (fun _ hk => .inl hk)); clear hr6 ho6
    go_wp2_with (fail)
    go_ret
    refine ⟨rfl, ?_, O6.out⟩
    have := R6.out.take (l.length - 1)
    have e1 : (l.take i ++ l.drop (i + 1)).length = l.length - 1 := by simp only [List.length_append, List.length_take, List.length_drop]; omega
    rw [List.take_append_of_le_length (by rw [List.length_take, R5b.out]; omega), List.take_take, Nat.min_self, List.take_append_of_le_length (by rw [e1]; exact Nat.le_refl _), ← e1, List.take_length] at this
    exact this)
end Go.Proofs.YtgekadfkokkapaaDoor
