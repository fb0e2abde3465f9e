/- The code's Set and Drop. The code's Set where it refuses; its Drop. What lists of extents mean, block by block: good lists that mean the same are the same. -/
import Derived.Test.YtglfjlbhjaemgaaGreatDoorPk06
namespace Go.Proofs.YtglfjlbhjaemgaaGreatDoor.Ext
open Go.RowKit
/-- A list of extents whose block is new. -/
def ExtsF (B : Nat) (w : World) (A : Option Addr) (l : List Ex) : Prop := Exts w A l ∧ (0 < l.length → ∀ a, A = some a → B ≤ a.block)
theorem ExtsF.mono {B C : Nat} {w : World} {A : Option Addr} {l : List Ex} (h : ExtsF B w A l) (hc : C ≤ B) : ExtsF C w A l := ⟨h.1, fun hn a ha => Nat.le_trans hc (h.2 hn a ha)⟩
theorem ExtsF.nil (B : Nat) (w : World) (A : Option Addr) : ExtsF B w A [] := ⟨Exts.nil w A, fun h => absurd h (Nat.not_lt_zero _)⟩
theorem merged_any (ps : List Part) (B : Nat) (w : World) (hB : ∀ (j : Nat) p, ps[j]? = some p → w.cell? ⟨B, j, none⟩ = some p.v) (hBl : B < w.heap.size) (hp : ∀ p ∈ ps, PartOk w p) (hlen : (outs ps).length ≤ 1000000) (hpl : ps.length ≤ 1000) (r : List Ex) (hr : mrgX [] (outs ps) = r) :
    Calls Tryz.prog 180 #[.slice (some ⟨B, 0, none⟩) ps.length ps.length] w fun e w' => ∃ A c, e = .returned (.slice A r.length c) ∧ ExtsF w.heap.size w' A r ∧ Below w.heap.size w w' := by
  refine (callsIn_wide.1 (merged_in ps B w hB hBl hp hlen hpl)).mono ?_
  rintro e w' ⟨v, rfl, hrow, hb⟩
  have hsm := (mrg_small (outs ps) 0 [] (fun y hy => by cases hy) (outs_fits hp)).1
  rw [hr] at hsm hrow
  obtain ⟨A, c, rfl, hex, hfr⟩ := exts_of_own hrow (fun x hx => by
    have := hsm x hx
    unfold Small at this
    exact Ex.Wf.of_small (k := 4096 * ((0 + (outs ps).length : Nat) : Int)) this (by omega))
  exact ⟨A, c, rfl, ⟨hex, hfr⟩, hb⟩
theorem IterAt.more {w v : World} {b0 b1 b2 : Nat} {A : Option Addr} {c : Nat} {l : List Ex} {lo hi : Int} (h : IterAt w.heap.size w b0 b1 b2 A c l lo hi) (hb : Below w.heap.size w v) : IterAt v.heap.size v b0 b1 b2 A c l lo hi := by
  have h2 := h.below hb
  have hs := hb.size
  exact ⟨h2.c0, h2.c1, h2.c2, Nat.lt_of_lt_of_le h2.k0 hs, Nat.lt_of_lt_of_le h2.k1 hs, Nat.lt_of_lt_of_le h2.k2 hs, h2.ext, fun hn a ha => Nat.lt_of_lt_of_le (h2.kA hn a ha) hs⟩
theorem PartOk.more {w v : World} {p : Part} (h : PartOk w p) (hb : Below w.heap.size w v) : PartOk v p := ⟨h.it.more hb, h.lo, h.hi, h.fit, h.len⟩
theorem merged3 (P1 P2 P3 : Part) (V : World) (h1 : PartOk V P1) (h2 : PartOk V P2) (h3 : PartOk V P3) (hlen : (outs [P1, P2, P3]).length ≤ 1000000) (r : List Ex) (hr : mrgX [] (outs [P1, P2, P3]) = r) :
    Calls Tryz.prog 180 #[.slice (some ⟨V.heap.size, 0, none⟩) 3 3] (V.alloc (.cells #[P1.v, P2.v, P3.v] 276)) fun e w' => ∃ A c, e = .returned (.slice A r.length c) ∧ ExtsF V.heap.size w' A r ∧ Below V.heap.size V w' := by
  have hb := (Below.refl V.heap.size V).alloc (Nat.le_refl _) (.cells #[P1.v, P2.v, P3.v] 276)
  have hk := Blk.new V 276 #[P1.v, P2.v, P3.v]
  refine (merged_any [P1, P2, P3] V.heap.size (V.alloc (.cells #[P1.v, P2.v, P3.v] 276)) ?_ hk.lt ?_ hlen (by simp) r hr).mono ?_
  · intro j p hj
    match j, hj with
    | 0, hj => simp at hj; subst hj; exact hk.cell 0
    | 1, hj => simp at hj; subst hj; exact hk.cell 1
    | 2, hj => simp at hj; subst hj; exact hk.cell 2
  · intro p hp
    simp at hp
    rcases hp with rfl | rfl | rfl
    · exact h1.more hb
    · exact h2.more hb
    · exact h3.more hb
  · rintro e w' ⟨A, c, h4, h5, h6⟩
    exact ⟨A, c, h4, h5.mono hb.size, hb.trans (h6.mono hb.size)⟩
theorem merged2 (P1 P2 : Part) (V : World) (h1 : PartOk V P1) (h2 : PartOk V P2) (hlen : (outs [P1, P2]).length ≤ 1000000) (r : List Ex) (hr : mrgX [] (outs [P1, P2]) = r) :
    Calls Tryz.prog 180 #[.slice (some ⟨V.heap.size, 0, none⟩) 2 2] (V.alloc (.cells #[P1.v, P2.v] 276)) fun e w' => ∃ A c, e = .returned (.slice A r.length c) ∧ ExtsF V.heap.size w' A r ∧ Below V.heap.size V w' := by
  have hb := (Below.refl V.heap.size V).alloc (Nat.le_refl _) (.cells #[P1.v, P2.v] 276)
  have hk := Blk.new V 276 #[P1.v, P2.v]
  refine (merged_any [P1, P2] V.heap.size (V.alloc (.cells #[P1.v, P2.v] 276)) ?_ hk.lt ?_ hlen (by simp) r hr).mono ?_
  · intro j p hj
    match j, hj with
    | 0, hj => simp at hj; subst hj; exact hk.cell 0
    | 1, hj => simp at hj; subst hj; exact hk.cell 1
  · intro p hp
    simp at hp
    rcases hp with rfl | rfl
    · exact h1.more hb
    · exact h2.more hb
  · rintro e w' ⟨A, c, h4, h5, h6⟩
    exact ⟨A, c, h4, h5.mono hb.size, hb.trans (h6.mono hb.size)⟩
theorem left_length (lo hi : Int) (l : List Ex) : (leftX lo hi l).length ≤ l.length := List.length_filterMap_le _ _
theorem mk_left (a b c : Value) (v : World) : Sem.run Tryz.prog (Instr.makeFunc (Fn.func 204) #[] #[a, b, c]) v = .ok (.func (.func 204) #[] #[a, b, c]) v := by kernel_rfl
theorem iter_new (A : Option Addr) (c : Nat) (l : List Ex) (lo hi : Int) (w : World) (hl : Exts w A l) : ∀ v, v = ((w.alloc (.cells #[.slice A l.length c] 138)).alloc (.cells #[.int .i64 lo] 3)).alloc (.cells #[.int .i64 hi] 3) →
    IterAt v.heap.size v w.heap.size (w.heap.size + 1) (w.heap.size + 1 + 1) A c l lo hi ∧ Below w.heap.size w v := by
  rintro v rfl
  have hb1 := (Below.refl w.heap.size w).alloc (Nat.le_refl _) (.cells #[.slice A l.length c] 138)
  have hb2 := hb1.alloc (by simp) (.cells #[.int .i64 lo] 3)
  have hb3 := hb2.alloc (by simp only [World.size_alloc]; omega) (.cells #[.int .i64 hi] 3)
  have k0 := ((Blk.new w 138 #[.slice A l.length c]).alloc (.cells #[.int .i64 lo] 3)).alloc (.cells #[.int .i64 hi] 3)
  have k1 := (Blk.new (w.alloc (.cells #[.slice A l.length c] 138)) 3 #[.int .i64 lo]).alloc (.cells #[.int .i64 hi] 3)
  have k2 := Blk.new ((w.alloc (.cells #[.slice A l.length c] 138)).alloc (.cells #[.int .i64 lo] 3)) 3 #[.int .i64 hi]
  simp only [World.size_alloc] at k1 k2
  refine ⟨⟨k0.cell 0, k1.cell 0, k2.cell 0, by simp only [World.size_alloc]; omega, by simp only [World.size_alloc]; omega, by simp only [World.size_alloc]; omega, hl.below hb3, fun hn a ha => ?_⟩, hb3⟩
  have := hl.lt hn a ha
  simp only [World.size_alloc]
  omega
set_option maxHeartbeats 1000000 in
theorem left_any (A : Option Addr) (c : Nat) (l : List Ex) (lo hi : Int) (w : World) (hl : Exts w A l) :
    Calls Tryz.prog 181 #[.slice A l.length c, .int .i64 lo, .int .i64 hi] w fun e w' => ∃ b0 b1 b2, e = .returned (.func (.func 204) #[] #[.pointer (some ⟨b0, 0, none⟩), .pointer (some ⟨b1, 0, none⟩), .pointer (some ⟨b2, 0, none⟩)]) ∧ IterAt w'.heap.size w' b0 b1 b2 A c l lo hi ∧ Below w.heap.size w w' := by
  have HI := Lib.hid (iter_new A c l lo hi w hl _ rfl); clear hl
  have hmk := mk_left (.pointer (some ⟨w.heap.size, 0, none⟩)) (.pointer (some ⟨w.heap.size + 1, 0, none⟩)) (.pointer (some ⟨w.heap.size + 1 + 1, 0, none⟩)) (((w.alloc (.cells #[.slice A l.length c] 138)).alloc (.cells #[.int .i64 lo] 3)).alloc (.cells #[.int .i64 hi] 3))
  go_enter Tryz.func181, Tryz.ntmps181
  go_wp2_with (fail)
  go_ret
  exact ⟨_, _, _, rfl, HI.out.1, HI.out.2⟩
/-- A list with the blocks of x stored where x says. -/
def setX (l : List Ex) (x : Ex) : List Ex := mrgX [] (leftX 0 x.l l ++ (leftX 0 4096 [x] ++ leftX (x.l + x.b) 4096 l))
def dropX (l : List Ex) (lba n : Int) : List Ex := mrgX [] (leftX 0 lba l ++ leftX (lba + n) 4096 l)
theorem alone_new (w : World) (x : Ex) (hx : x.Wf) : ∀ v, v = (w.alloc (.cells #[.int .i64 x.l, .int .i64 x.b, .int .i64 x.a] 158)).alloc (.cells #[.int .i64 x.l, .int .i64 x.b, .int .i64 x.a] 158) →
    Blk v w.heap.size 158 (exC x) ∧ Exts v (some ⟨w.heap.size + 1, 0, none⟩) [x] ∧ Below w.heap.size w v := by
  rintro v rfl
  obtain ⟨h1, h2, h3, _⟩ := two_boxes w x x _ rfl
  refine ⟨h1, fun _ => ⟨_, _, rfl, fun j y hj => ?_⟩, h3⟩
  cases j with
  | zero =>
    simp at hj
    subst hj
    exact ⟨hx, h2.cell 0, h2.cell 1, h2.cell 2⟩
  | succ j => simp at hj
set_option maxRecDepth 100000 in
set_option maxHeartbeats 4000000 in
theorem set_ok (A : Option Addr) (c : Nat) (l : List Ex) (x : Ex) (w : World) (hl : Exts w A l) (hg : goodB l = true) (hx : x.Wf) (hf : fitsB x = true) (hn : l.length ≤ 100000) (hfit : ∀ y ∈ l, y.Fits) :
    Calls Tryz.prog 163 #[.slice A l.length c, exV x] w fun e w' => ∃ A' c', e = .returned (.tuple #[.slice A' (setX l x).length c', .int .i64 0]) ∧ ExtsF w.heap.size w' A' (setX l x) ∧ Below w.heap.size w w' := by
  obtain ⟨hbx, hal, hb0⟩ := alone_new w x hx _ rfl
  have HL0 := Lib.hid hl; have HX := Lib.hid hbx; have HA := Lib.hid hal; have HB0 := Lib.hid hb0
  have hg1 : goodB [x] = true := by unfold goodB chainB; rw [hf]; rfl
  have HG := Lib.hid hg; have HG1 := Lib.hid hg1; have HF := Lib.hid hf
  clear hl hbx hal hb0 hg hg1 hf
  unfold exV
  go_enter Tryz.func163, Tryz.ntmps163
  go_upto_region 2 with (fail)
  change Code.wp _ _ _ _ ((w.alloc (.cells #[.int .i64 x.l, .int .i64 x.b, .int .i64 x.a] 158)).alloc (.cells #[.int .i64 x.l, .int .i64 x.b, .int .i64 x.a] 158))
  generalize hw0 : (w.alloc (.cells #[.int .i64 x.l, .int .i64 x.b, .int .i64 x.a] 158)).alloc (.cells #[.int .i64 x.l, .int .i64 x.b, .int .i64 x.a] 158) = w0 at *
  clear hw0
  have HGA := Lib.hid (fun v (h : Exts v A l) => good_any A c l v h (by unfold maxLen; omega))
  rw [HG.out] at HGA
  have HGB := Lib.hid (fun v (h : Exts v (some ⟨w.heap.size + 1, 0, none⟩) [x]) => good_any (some ⟨w.heap.size + 1, 0, none⟩) 1 [x] v h (by unfold maxLen; simp))
  rw [HG1.out] at HGB
  have HL := Lib.hid ((HL0.out.kept (fun hn a ha => HB0.out.block _ (HL0.out.lt hn a ha)) : Exts w0 A l))
  go_wp2_with (fail)
  refine (HGA.out _ HL.out).mono ?_; rintro e w1 ⟨rfl, hb1⟩
  have HL1 := Lib.hid (HL.out.below hb1)
  have HA1 := Lib.hid (HA.out.below hb1)
  have HX1 := Lib.hid (HX.out.below hb1 HX.out.lt)
  have HB1 := Lib.hid (HB0.out.trans (hb1.mono HB0.out.size))
  clear hb1
  have hnt : Sem.run Tryz.prog (Op.unary UnOp.not (.bool true)) w1 = .ok (.bool false) w1 := rfl
  go_wp2_with (fail)
  refine (HGB.out _ HA1.out).mono ?_; rintro e w2 ⟨rfl, hb2⟩
  have HL2 := Lib.hid (HL1.out.below hb2)
  have HA2 := Lib.hid (HA1.out.below hb2)
  have HX2 := Lib.hid (HX1.out.below hb2 HX1.out.lt)
  have HB2 := Lib.hid (HB1.out.trans (hb2.mono HB1.out.size))
  clear hb2 hnt
  have hnt : Sem.run Tryz.prog (Op.unary UnOp.not (.bool true)) w2 = .ok (.bool false) w2 := rfl
  go_upto_region 4 with (fail)
  have a0 := HX2.out.cell 0
  have a1 := HX2.out.cell 1
  have a2 := HX2.out.cell 2
  have hff := (fitsB_iff x).1 HF.out
  have HFT1 := Lib.hid (show ∀ y ∈ [x], y.Fits from fun y hy => by simp at hy; subst hy; exact hff)
  obtain ⟨s1, s2, _, _⟩ := fits_sums hff
  unfold Ex.Fits at hff
  have HBD := Lib.hid (show (0 ≤ x.l + x.b ∧ x.l + x.b ≤ 4096) ∧ (0 ≤ x.l ∧ x.l ≤ 4096) by omega)
  have HFT := Lib.hid hfit
  have HLEN := Lib.hid (fun (p q r : Nat × Nat × Nat) => (by
    unfold outs Part.out
    simp only [List.flatMap_cons, List.flatMap_nil, List.length_append, List.length_nil]
    have e1 := left_length 0 x.l l
    have e2 := left_length 0 4096 [x]
    have e3 := left_length (x.l + x.b) 4096 l
    simp only [List.length_cons, List.length_nil] at e2
    omega : (outs [⟨p.1, p.2.1, p.2.2, A, c, l, 0, x.l⟩, ⟨q.1, q.2.1, q.2.2, some ⟨w.heap.size + 1, 0, none⟩, 1, [x], 0, 4096⟩, ⟨r.1, r.2.1, r.2.2, A, c, l, x.l + x.b, 4096⟩]).length ≤ 1000000))
  have HR := Lib.hid (fun (p q r : Nat × Nat × Nat) => (by
    unfold outs Part.out setX
    simp only [List.flatMap_cons, List.flatMap_nil, List.append_nil] : mrgX [] (outs [⟨p.1, p.2.1, p.2.2, A, c, l, 0, x.l⟩, ⟨q.1, q.2.1, q.2.2, some ⟨w.heap.size + 1, 0, none⟩, 1, [x], 0, 4096⟩, ⟨r.1, r.2.1, r.2.2, A, c, l, x.l + x.b, 4096⟩]) = setX l x))
  clear hff
  go_region_held3 (fun v => v.cell? ⟨w.heap.size, 0, none⟩ = some (.int .i64 x.l) ∧ v.cell? ⟨w.heap.size, 1, none⟩ = some (.int .i64 x.b) ∧ v.cell? ⟨w.heap.size, 2, none⟩ = some (.int .i64 x.a)) (first | exact ⟨a0, a1, a2⟩ | exact ⟨b0, b1, b2⟩ | exact ⟨c0, c1, c2⟩ | exact ⟨d0, d1, d2⟩ | exact ⟨f0, f1, f2⟩ | exact ⟨g0, g1, g2⟩ | exact ⟨k0, k1, k2⟩) (first
    | (go_at_call 181; refine (left_any A c l 0 x.l _ (HL2.out.below (Below.refl _ _).drew)).mono ?_; rintro e w3 ⟨p0, p1, p2, rfl, hI3, hb3⟩
       have HI3 := Lib.hid hI3
       have HL3 := Lib.hid ((HL2.out.below (Below.refl _ _).drew).below hb3)
       have HA3 := Lib.hid ((HA2.out.below (Below.refl _ _).drew).below hb3)
       obtain ⟨b0, b1, b2⟩ := blk_cells3 HX2.out ((Below.refl _ _).drew.trans hb3)
       have HB3 := Lib.hid (HB2.out.drew.trans (hb3.mono HB2.out.drew.size))
       clear hI3 hb3)
    | (go_at_call 181; refine (left_any (some ⟨w.heap.size + 1, 0, none⟩) 1 [x] 0 4096 _ HA3.out).mono ?_; rintro e w4 ⟨q0, q1, q2, rfl, hI4, hb4⟩
       have HI4 := Lib.hid hI4
       have HJ4 := Lib.hid (HI3.out.more hb4)
       have HL4 := Lib.hid (HL3.out.below hb4)
       have HB4 := Lib.hid (HB3.out.trans (hb4.mono HB3.out.size))
       have c0 := (hb4.cell (p := ⟨w.heap.size, 0, none⟩) (World.block_lt_of_cell? _ _ b0)).trans b0
       have c1 := (hb4.cell (p := ⟨w.heap.size, 1, none⟩) (World.block_lt_of_cell? _ _ b1)).trans b1
       have c2 := (hb4.cell (p := ⟨w.heap.size, 2, none⟩) (World.block_lt_of_cell? _ _ b2)).trans b2
       clear hI4 hb4)
    | (go_at_call 192; refine (end_any x _ s1 s2).mono ?_; rintro e w5 ⟨rfl, hb5⟩
       have HI5 := Lib.hid (HI4.out.more hb5)
       have HJ5 := Lib.hid (HJ4.out.more hb5)
       have HL5 := Lib.hid (HL4.out.below hb5)
       have HB5 := Lib.hid (HB4.out.trans (hb5.mono HB4.out.size))
       have d0 := (hb5.cell (p := ⟨w.heap.size, 0, none⟩) (World.block_lt_of_cell? _ _ c0)).trans c0
       have d1 := (hb5.cell (p := ⟨w.heap.size, 1, none⟩) (World.block_lt_of_cell? _ _ c1)).trans c1
       have d2 := (hb5.cell (p := ⟨w.heap.size, 2, none⟩) (World.block_lt_of_cell? _ _ c2)).trans c2
       clear hb5)
    | (go_at_call 181; refine (left_any A c l (x.l + x.b) 4096 _ HL5.out).mono ?_; rintro e w6 ⟨r0, r1, r2, rfl, hI6, hb6⟩
       have HP3 := Lib.hid (show PartOk w6 ⟨r0, r1, r2, A, c, l, x.l + x.b, 4096⟩ from ⟨hI6, HBD.out.1, (show (0 : Int) ≤ 4096 ∧ (4096 : Int) ≤ 4096 by omega), HFT.out, hn⟩)
       have HP1 := Lib.hid (show PartOk w6 ⟨p0, p1, p2, A, c, l, 0, x.l⟩ from ⟨HJ5.out.more hb6, (show (0 : Int) ≤ 0 ∧ (0 : Int) ≤ 4096 by omega), HBD.out.2, HFT.out, hn⟩)
       have HP2 := Lib.hid (show PartOk w6 ⟨q0, q1, q2, some ⟨w.heap.size + 1, 0, none⟩, 1, [x], 0, 4096⟩ from ⟨HI5.out.more hb6, (show (0 : Int) ≤ 0 ∧ (0 : Int) ≤ 4096 by omega), (show (0 : Int) ≤ 4096 ∧ (4096 : Int) ≤ 4096 by omega), HFT1.out, (show [x].length ≤ 100000 by simp)⟩)
       have hm := merged3 _ _ _ w6 HP1.out HP2.out HP3.out (HLEN.out (p0, p1, p2) (q0, q1, q2) (r0, r1, r2)) (setX l x) (HR.out (p0, p1, p2) (q0, q1, q2) (r0, r1, r2))
       simp only [Part.v] at hm
       have HMG := Lib.hid hm
       clear hm
       have HB6 := Lib.hid (HB5.out.trans (hb6.mono HB5.out.size))
       have f0 := (hb6.cell (p := ⟨w.heap.size, 0, none⟩) (World.block_lt_of_cell? _ _ d0)).trans d0
       have f1 := (hb6.cell (p := ⟨w.heap.size, 1, none⟩) (World.block_lt_of_cell? _ _ d1)).trans d1
       have f2 := (hb6.cell (p := ⟨w.heap.size, 2, none⟩) (World.block_lt_of_cell? _ _ d2)).trans d2
       have hal := (Below.refl w6.heap.size w6).alloc (Nat.le_refl _) (.cells #[.func (.func 204) #[] #[.pointer (some ⟨p0, 0, none⟩), .pointer (some ⟨p1, 0, none⟩), .pointer (some ⟨p2, 0, none⟩)], .func (.func 204) #[] #[.pointer (some ⟨q0, 0, none⟩), .pointer (some ⟨q1, 0, none⟩), .pointer (some ⟨q2, 0, none⟩)], .func (.func 204) #[] #[.pointer (some ⟨r0, 0, none⟩), .pointer (some ⟨r1, 0, none⟩), .pointer (some ⟨r2, 0, none⟩)]] 276)
       have g0 := (hal.cell (p := ⟨w.heap.size, 0, none⟩) (World.block_lt_of_cell? _ _ f0)).trans f0
       have g1 := (hal.cell (p := ⟨w.heap.size, 1, none⟩) (World.block_lt_of_cell? _ _ f1)).trans f1
       have g2 := (hal.cell (p := ⟨w.heap.size, 2, none⟩) (World.block_lt_of_cell? _ _ f2)).trans f2
       clear hI6 hb6 hal)
    | (go_at_call 180; refine HMG.out.mono ?_; rintro e w7 ⟨A', c', rfl, hx7, hb7⟩
       have HX7 := Lib.hid (hx7.mono HB6.out.size)
       have HB7 := Lib.hid (HB6.out.trans (hb7.mono HB6.out.size))
       have k0 := (hb7.cell (p := ⟨w.heap.size, 0, none⟩) (World.block_lt_of_cell? _ _ f0)).trans f0
       have k1 := (hb7.cell (p := ⟨w.heap.size, 1, none⟩) (World.block_lt_of_cell? _ _ f1)).trans f1
       have k2 := (hb7.cell (p := ⟨w.heap.size, 2, none⟩) (World.block_lt_of_cell? _ _ f2)).trans f2
       clear hx7 hb7)
    | fail)
  all_goals (go_wp2_with (fail); go_ret2; exact ⟨_, _, rfl, HX7.out, HB7.out⟩)
end Go.Proofs.YtglfjlbhjaemgaaGreatDoor.Ext
namespace Go.Proofs.YtglfjlbhjaemgaaGreatDoor.Ext
open Go.RowKit
theorem not_true (v : World) : Sem.run Tryz.prog (Op.unary UnOp.not (.bool true)) v = .ok (.bool false) v := rfl
theorem not_false (v : World) : Sem.run Tryz.prog (Op.unary UnOp.not (.bool false)) v = .ok (.bool true) v := rfl
set_option maxRecDepth 100000 in
set_option maxHeartbeats 4000000 in
theorem set_no1 (A : Option Addr) (c : Nat) (l : List Ex) (x : Ex) (w : World) (hl : Exts w A l) (hg : goodB l = false) (hx : x.Wf) (hn : l.length ≤ maxLen) :
    Calls Tryz.prog 163 #[.slice A l.length c, exV x] w fun e w' => e = .returned (.tuple #[.slice none 0 0, .int .i64 70]) ∧ Below w.heap.size w w' := by
  obtain ⟨hbx, hal, hb0⟩ := alone_new w x hx _ rfl
  have HL0 := Lib.hid hl; have HB0 := Lib.hid hb0; have HG := Lib.hid hg
  clear hl hbx hal hb0 hg
  unfold exV
  go_enter Tryz.func163, Tryz.ntmps163
  go_upto_region 2 with (fail)
  change Code.wp _ _ _ _ ((w.alloc (.cells #[.int .i64 x.l, .int .i64 x.b, .int .i64 x.a] 158)).alloc (.cells #[.int .i64 x.l, .int .i64 x.b, .int .i64 x.a] 158))
  generalize hw0 : (w.alloc (.cells #[.int .i64 x.l, .int .i64 x.b, .int .i64 x.a] 158)).alloc (.cells #[.int .i64 x.l, .int .i64 x.b, .int .i64 x.a] 158) = w0 at *
  clear hw0
  have HGA := Lib.hid (fun v (h : Exts v A l) => good_any A c l v h hn)
  rw [HG.out] at HGA
  have HL := Lib.hid ((HL0.out.kept (fun hn a ha => HB0.out.block _ (HL0.out.lt hn a ha)) : Exts w0 A l))
  go_wp2_with (fail)
  refine (HGA.out _ HL.out).mono ?_; rintro e w1 ⟨rfl, hb1⟩
  have HB1 := Lib.hid (HB0.out.trans (hb1.mono HB0.out.size))
  clear hb1
  have hnt := not_false w1
  go_wp2_with (fail)
  go_ret2
  exact ⟨rfl, HB1.out⟩
set_option maxRecDepth 100000 in
set_option maxHeartbeats 4000000 in
theorem set_no2 (A : Option Addr) (c : Nat) (l : List Ex) (x : Ex) (w : World) (hl : Exts w A l) (hg : goodB l = true) (hx : x.Wf) (hf : fitsB x = false) (hn : l.length ≤ maxLen) :
    Calls Tryz.prog 163 #[.slice A l.length c, exV x] w fun e w' => e = .returned (.tuple #[.slice none 0 0, .int .i64 70]) ∧ Below w.heap.size w w' := by
  obtain ⟨hbx, hal, hb0⟩ := alone_new w x hx _ rfl
  have hg1 : goodB [x] = false := by unfold goodB chainB; rw [hf]; rfl
  have HL0 := Lib.hid hl; have HB0 := Lib.hid hb0; have HG := Lib.hid hg; have HA := Lib.hid hal; have HG1 := Lib.hid hg1
  clear hl hbx hal hb0 hg hg1 hf
  unfold exV
  go_enter Tryz.func163, Tryz.ntmps163
  go_upto_region 2 with (fail)
  change Code.wp _ _ _ _ ((w.alloc (.cells #[.int .i64 x.l, .int .i64 x.b, .int .i64 x.a] 158)).alloc (.cells #[.int .i64 x.l, .int .i64 x.b, .int .i64 x.a] 158))
  generalize hw0 : (w.alloc (.cells #[.int .i64 x.l, .int .i64 x.b, .int .i64 x.a] 158)).alloc (.cells #[.int .i64 x.l, .int .i64 x.b, .int .i64 x.a] 158) = w0 at *
  clear hw0
  have HGA := Lib.hid (fun v (h : Exts v A l) => good_any A c l v h hn)
  rw [HG.out] at HGA
  have HGB := Lib.hid (fun v (h : Exts v (some ⟨w.heap.size + 1, 0, none⟩) [x]) => good_any (some ⟨w.heap.size + 1, 0, none⟩) 1 [x] v h (by unfold maxLen; simp))
  rw [HG1.out] at HGB
  have HL := Lib.hid ((HL0.out.kept (fun hn a ha => HB0.out.block _ (HL0.out.lt hn a ha)) : Exts w0 A l))
  go_wp2_with (fail)
  refine (HGA.out _ HL.out).mono ?_; rintro e w1 ⟨rfl, hb1⟩
  have HB1 := Lib.hid (HB0.out.trans (hb1.mono HB0.out.size))
  have HA1 := Lib.hid (HA.out.below hb1)
  clear hb1
  have hnt := not_true w1
  go_wp2_with (fail)
  refine (HGB.out _ HA1.out).mono ?_; rintro e w2 ⟨rfl, hb2⟩
  have HB2 := Lib.hid (HB1.out.trans (hb2.mono HB1.out.size))
  clear hb2 hnt
  have hnt := not_false w2
  go_wp2_with (fail)
  go_ret2
  exact ⟨rfl, HB2.out⟩
set_option maxRecDepth 100000 in
set_option maxHeartbeats 4000000 in
theorem drop_ok (A : Option Addr) (c : Nat) (l : List Ex) (lba n : Int) (w : World) (hl : Exts w A l) (hg : goodB l = true) (h1 : 0 ≤ lba) (h2 : 0 ≤ n) (h3 : n ≤ 4096 - lba) (hn : l.length ≤ 100000) (hfit : ∀ y ∈ l, y.Fits) :
    Calls Tryz.prog 137 #[.slice A l.length c, .int .i64 lba, .int .i64 n] w fun e w' => ∃ A' c', e = .returned (.tuple #[.slice A' (dropX l lba n).length c', .int .i64 0]) ∧ ExtsF w.heap.size w' A' (dropX l lba n) ∧ Below w.heap.size w w' := by
  have HL := Lib.hid hl; have HG := Lib.hid hg; have HFT := Lib.hid hfit
  clear hl hg hfit
  have HGA := Lib.hid (fun v (h : Exts v A l) => good_any A c l v h (by unfold maxLen; omega))
  rw [HG.out] at HGA
  have g1 : ¬ lba < 0 := by omega
  have g2 : ¬ n < 0 := by omega
  have g3 : ¬ n > 4096 - lba := by omega
  have e1 : IntKind.i64.wrap (4096 - lba) = 4096 - lba := i64w _ (by omega)
  have e2 : IntKind.i64.wrap (lba + n) = lba + n := i64w _ (by omega)
  have HBD := Lib.hid (show (0 ≤ lba ∧ lba ≤ 4096) ∧ (0 ≤ lba + n ∧ lba + n ≤ 4096) by omega)
  clear h1 h2 h3
  go_enter Tryz.func137, Tryz.ntmps137
  go_wp2_with (fail)
  refine (HGA.out _ HL.out).mono ?_; rintro e w1 ⟨rfl, hb1⟩
  have HL1 := Lib.hid (HL.out.below hb1)
  have HB1 := Lib.hid hb1
  clear hb1
  have hnt := not_true w1
  go_wp2_with (fail)
  refine (left_any A c l 0 lba _ HL1.out).mono ?_; rintro e w2 ⟨p0, p1, p2, rfl, hI2, hb2⟩
  have HI2 := Lib.hid hI2
  have HL2 := Lib.hid (HL1.out.below hb2)
  have HB2 := Lib.hid (HB1.out.trans (hb2.mono HB1.out.size))
  clear hI2 hb2 hnt
  go_wp2_with (fail)
  refine (left_any A c l (lba + n) 4096 _ HL2.out).mono ?_; rintro e w3 ⟨q0, q1, q2, rfl, hI3, hb3⟩
  have HP1 := Lib.hid (show PartOk w3 ⟨p0, p1, p2, A, c, l, 0, lba⟩ from ⟨HI2.out.more hb3, (show (0 : Int) ≤ 0 ∧ (0 : Int) ≤ 4096 by omega), HBD.out.1, HFT.out, hn⟩)
  have HP2 := Lib.hid (show PartOk w3 ⟨q0, q1, q2, A, c, l, lba + n, 4096⟩ from ⟨hI3, HBD.out.2, (show (0 : Int) ≤ 4096 ∧ (4096 : Int) ≤ 4096 by omega), HFT.out, hn⟩)
  have hm := merged2 _ _ w3 HP1.out HP2.out (by
    unfold outs Part.out
    simp only [List.flatMap_cons, List.flatMap_nil, List.length_append, List.length_nil]
    have e1 := left_length 0 lba l
    have e2 := left_length (lba + n) 4096 l
    omega) (dropX l lba n) (by
    unfold outs Part.out dropX
    simp only [List.flatMap_cons, List.flatMap_nil, List.append_nil])
  simp only [Part.v] at hm
  have HMG := Lib.hid hm
  have HB3 := Lib.hid (HB2.out.trans (hb3.mono HB2.out.size))
  clear hI3 hb3 hm
  go_wp2_with (fail)
  refine HMG.out.mono ?_; rintro e w4 ⟨A', c', rfl, hx4, hb4⟩
  have HX4 := Lib.hid (hx4.mono HB3.out.size)
  have HB4 := Lib.hid (HB3.out.trans (hb4.mono HB3.out.size))
  clear hx4 hb4
  go_wp2_with (fail)
  go_ret2
  exact ⟨_, _, rfl, HX4.out, HB4.out⟩
set_option maxRecDepth 100000 in
set_option maxHeartbeats 4000000 in
theorem drop_no (A : Option Addr) (c : Nat) (l : List Ex) (lba n : Int) (w : World) (hl : Exts w A l) (hb : goodB l = false ∨ lba < 0 ∨ n < 0 ∨ 4096 - lba < n) (hw1 : -9223372036854775808 ≤ lba ∧ lba ≤ 9223372036854775807) (hn : l.length ≤ maxLen) :
    Calls Tryz.prog 137 #[.slice A l.length c, .int .i64 lba, .int .i64 n] w fun e w' => e = .returned (.tuple #[.slice none 0 0, .int .i64 70]) ∧ Below w.heap.size w w' := by
  have HL := Lib.hid hl
  clear hl
  have HGA := Lib.hid (fun v (h : Exts v A l) => good_any A c l v h hn)
  go_enter Tryz.func137, Tryz.ntmps137
  cases hg : goodB l with
  | false =>
    rw [hg] at HGA
    clear hg hb
    go_wp2_with (fail)
    refine (HGA.out _ HL.out).mono ?_; rintro e w1 ⟨rfl, hb1⟩
    have HB1 := Lib.hid hb1
    clear hb1
    have hnt := not_false w1
    go_wp2_with (fail)
    go_ret2
    exact ⟨rfl, HB1.out⟩
  | true =>
    rw [hg] at HGA hb
    clear hg
    go_wp2_with (fail)
    refine (HGA.out _ HL.out).mono ?_; rintro e w1 ⟨rfl, hb1⟩
    have HB1 := Lib.hid hb1
    clear hb1
    have hnt := not_true w1
    by_cases g1 : lba < 0
    · clear hb
      go_wp2_with (fail)
      go_ret2
      exact ⟨rfl, HB1.out⟩
    · by_cases g2 : n < 0
      · clear hb
        go_wp2_with (fail)
        go_ret2
        exact ⟨rfl, HB1.out⟩
      · have g3 : n > 4096 - lba := by
          rcases hb with h | h | h | h
          · cases h
          · omega
          · omega
          · omega
        have e1 : IntKind.i64.wrap (4096 - lba) = 4096 - lba := i64w _ (by omega)
        clear hb
        go_wp2_with (fail)
        go_ret2
        exact ⟨rfl, HB1.out⟩
end Go.Proofs.YtglfjlbhjaemgaaGreatDoor.Ext
namespace Go.Proofs.YtglfjlbhjaemgaaGreatDoor.Ext
/-- Where a block is stored. -/
def whereX : List Ex → Int → Option Int
  | [], _ => none
  | x :: t, n => if x.l ≤ n ∧ n < x.l + x.b then some (x.a + n - x.l) else whereX t n
/-- In ascending order, from s to e. -/
def AscTo : Int → Int → List Ex → Prop
  | s, e, [] => s ≤ e
  | s, e, x :: t => s ≤ x.l ∧ x.Fits ∧ AscTo (x.l + x.b) e t
theorem AscTo.le : ∀ {l : List Ex} {s e : Int}, AscTo s e l → s ≤ e
  | [], _, _, h => h
  | x :: t, _, _, h => by have := AscTo.le h.2.2; have := h.1; have := h.2.1; unfold Ex.Fits at this; omega
theorem AscTo.app : ∀ {a b : List Ex} {s m e : Int}, AscTo s m a → AscTo m e b → AscTo s e (a ++ b)
  | [], [], _, _, _, h, k => by have h : _ ≤ _ := h; have k : _ ≤ _ := k; show _ ≤ _; omega
  | [], y :: b, _, _, _, h, k => ⟨by have h : _ ≤ _ := h; have := k.1; omega, k.2.1, k.2.2⟩
  | x :: a, b, _, _, _, h, k => ⟨h.1, h.2.1, AscTo.app h.2.2 k⟩
theorem AscTo.none_below : ∀ {l : List Ex} {s e : Int}, AscTo s e l → ∀ n, n < s → whereX l n = none
  | [], _, _, _, _, _ => rfl
  | x :: t, _, _, h, n, hn => by
    unfold whereX
    have hf := h.2.1
    unfold Ex.Fits at hf
    have := h.1
    rw [if_neg (by omega)]
    exact AscTo.none_below h.2.2 n (by omega)
theorem AscTo.none_above : ∀ {l : List Ex} {s e : Int}, AscTo s e l → ∀ n, e ≤ n → whereX l n = none
  | [], _, _, _, _, _ => rfl
  | x :: t, _, _, h, n, hn => by
    unfold whereX
    have := AscTo.le h.2.2
    rw [if_neg (by omega)]
    exact AscTo.none_above h.2.2 n hn
theorem AscTo.fits : ∀ {l : List Ex} {s e : Int}, AscTo s e l → ∀ x ∈ l, x.Fits
  | x :: t, _, _, h, y, hy => by
    rcases List.mem_cons.1 hy with rfl | hy
    · exact h.2.1
    · exact AscTo.fits h.2.2 y hy
theorem may_le {x y : Ex} (h : mayB x y = true) : x.l + x.b ≤ y.l := by
  unfold mayB at h
  rw [Bool.and_eq_true] at h
  have := of_decide_eq_true h.1
  omega
theorem chain_cons {p : Option Ex} {x : Ex} {t : List Ex} (h : chainB p (x :: t) = true) : x.Fits ∧ (∀ q, p = some q → mayB q x = true) ∧ chainB (some x) t = true := by
  unfold chainB at h
  rw [Bool.and_eq_true, Bool.and_eq_true] at h
  refine ⟨(fitsB_iff x).1 h.1, fun q hq => ?_, h.2.2⟩
  subst hq
  exact h.2.1
theorem chain_some : ∀ {t : List Ex} {q : Ex}, q.Fits → chainB (some q) t = true → AscTo (q.l + q.b) 4096 t
  | [], q, hq, _ => by unfold Ex.Fits at hq; show _ ≤ _; omega
  | x :: t, q, _, h => by
    obtain ⟨h1, h2, h3⟩ := chain_cons h
    exact ⟨may_le (h2 q rfl), h1, chain_some h1 h3⟩
theorem chain_asc {l : List Ex} (h : chainB none l = true) : AscTo 0 4096 l := by
  cases l with
  | nil => show (0 : Int) ≤ 4096; omega
  | cons x t =>
    obtain ⟨h1, _, h3⟩ := chain_cons h
    exact ⟨h1.1, h1, chain_some h1 h3⟩
theorem good_asc {l : List Ex} (h : goodB l = true) : AscTo 0 4096 l := chain_asc h
theorem where_app : ∀ (a b : List Ex) (n : Int), whereX (a ++ b) n = (whereX a n).or (whereX b n)
  | [], b, n => rfl
  | x :: a, b, n => by
    show (if x.l ≤ n ∧ n < x.l + x.b then some (x.a + n - x.l) else whereX (a ++ b) n) = (if x.l ≤ n ∧ n < x.l + x.b then some (x.a + n - x.l) else whereX a n).or (whereX b n)
    by_cases h : x.l ≤ n ∧ n < x.l + x.b
    · rw [if_pos h, if_pos h]; rfl
    · rw [if_neg h, if_neg h]; exact where_app a b n
/-- What is left between two blocks is stored where it was. -/
theorem where_left (lo hi : Int) : ∀ (l : List Ex) (n : Int), whereX (leftX lo hi l) n = if lo ≤ n ∧ n < hi then whereX l n else none
  | [], n => by simp [leftX, whereX]
  | x :: t, n => by
    have ih := where_left lo hi t n
    have e : leftX lo hi (x :: t) = (cutX lo hi x).toList ++ leftX lo hi t := by
      unfold leftX
      rw [List.filterMap_cons]
      cases cutX lo hi x <;> rfl
    rw [e, where_app, ih]
    unfold cutX
    obtain ⟨F1, hF1⟩ : ∃ F1, (if x.l < lo then lo else x.l) = F1 := ⟨_, rfl⟩
    obtain ⟨F2, hF2⟩ : ∃ F2, (if x.l + x.b ≤ hi then x.l + x.b else hi) = F2 := ⟨_, rfl⟩
    rw [hF1, hF2]
    have g1 : (x.l < lo ∧ F1 = lo) ∨ (lo ≤ x.l ∧ F1 = x.l) := by rw [← hF1]; split <;> omega
    have g2 : (x.l + x.b ≤ hi ∧ F2 = x.l + x.b) ∨ (hi < x.l + x.b ∧ F2 = hi) := by rw [← hF2]; split <;> omega
    clear hF1 hF2
    by_cases h1 : F1 < F2
    · rw [if_pos h1]
      simp only [Option.toList_some, whereX]
      by_cases h2 : x.l ≤ n ∧ n < x.l + x.b ∧ lo ≤ n ∧ n < hi
      · rw [if_pos (by omega), if_pos (by omega), if_pos (by omega), if_pos (by omega)]
        show some _ = some _
        exact congrArg some (by omega)
      · rw [if_neg (by omega)]
        simp only [Option.none_or]
        by_cases h3 : lo ≤ n ∧ n < hi
        · rw [if_pos h3, if_pos h3, if_neg (by omega)]
        · rw [if_neg h3, if_neg h3]
    · rw [if_neg h1]
      simp only [Option.toList_none, whereX, Option.none_or]
      by_cases h3 : lo ≤ n ∧ n < hi
      · rw [if_pos h3, if_pos h3, if_neg (by omega)]
      · rw [if_neg h3, if_neg h3]
theorem asc_left (lo hi : Int) (h0 : 0 ≤ lo) : ∀ (l : List Ex) (s e m : Int), AscTo s e l → m ≤ hi → (m ≤ s ∨ m ≤ lo) → AscTo m hi (leftX lo hi l)
  | [], _, _, m, _, h1, _ => h1
  | x :: t, s, e, m, h, h1, h2 => by
    have hh := h.1
    have hx := h.2.1
    unfold Ex.Fits at hx
    have e1 : leftX lo hi (x :: t) = (cutX lo hi x).toList ++ leftX lo hi t := by
      unfold leftX
      rw [List.filterMap_cons]
      cases cutX lo hi x <;> rfl
    rw [e1]
    cases hc : cutX lo hi x with
    | none => exact asc_left lo hi h0 t (x.l + x.b) e m h.2.2 h1 (by omega)
    | some y =>
      have hy := cut_fits h.2.1 h0 hc
      unfold cutX at hc
      obtain ⟨F1, hF1⟩ : ∃ F1, (if x.l < lo then lo else x.l) = F1 := ⟨_, rfl⟩
      obtain ⟨F2, hF2⟩ : ∃ F2, (if x.l + x.b ≤ hi then x.l + x.b else hi) = F2 := ⟨_, rfl⟩
      rw [hF1, hF2] at hc
      by_cases hq : F1 < F2
      · rw [if_pos hq] at hc
        injection hc with hc
        subst hc
        have g1 : x.l ≤ F1 ∧ lo ≤ F1 := by rw [← hF1]; split <;> omega
        have g2 : F2 ≤ hi ∧ F2 ≤ x.l + x.b := by rw [← hF2]; split <;> omega
        refine ⟨by simp only; omega, hy, ?_⟩
        have := asc_left lo hi h0 t (x.l + x.b) e F2 h.2.2 g2.1 (.inl g2.2)
        show AscTo (F1 + (F2 - F1)) hi _
        rw [show F1 + (F2 - F1) = F2 by omega]
        exact this
      · rw [if_neg hq] at hc
        cases hc
theorem chain_snoc : ∀ (r : List Ex) (p : Option Ex) (x : Ex), chainB p (r ++ [x]) = (chainB p r && (fitsB x && (match (match r.getLast? with | none => p | some y => some y) with | none => true | some q => mayB q x)))
  | [], p, x => by
    show chainB p [x] = _
    cases p <;> simp [chainB]
  | y :: r, p, x => by
    show chainB p (y :: (r ++ [x])) = _
    unfold chainB
    rw [chain_snoc r (some y) x]
    have e : (match (y :: r).getLast? with | none => p | some z => some z) = (match r.getLast? with | none => some y | some z => some z) := by
      cases r with
      | nil => rfl
      | cons z r => simp [List.getLast?_cons]
    rw [e]
    simp only [Bool.and_assoc]
/-- A good list that ends at e, or ahead of it. -/
def GoodTo (r : List Ex) (e : Int) : Prop := chainB none r = true ∧ ∀ y, r.getLast? = some y → y.l + y.b ≤ e
theorem where_one (y : Ex) (n : Int) : whereX [y] n = if y.l ≤ n ∧ n < y.l + y.b then some (y.a + n - y.l) else none := rfl
theorem goodTo_push {r : List Ex} {e : Int} {x : Ex} (h : GoodTo r e) (he : e ≤ x.l) (hx : x.Fits) : GoodTo (pushX r x) (x.l + x.b) ∧ ∀ n, whereX (pushX r x) n = (whereX r n).or (whereX [x] n) := by
  have hxb := (fitsB_iff x).2 hx
  by_cases hr : r = []
  · subst hr
    rw [push_nil]
    refine ⟨⟨?_, fun y hy => ?_⟩, fun n => rfl⟩
    · show (fitsB x && (true && true)) = true
      rw [hxb]; rfl
    · simp at hy; subst hy; exact Int.le_refl _
  · obtain ⟨r', y, rfl⟩ := split_last hr
    rw [push_last]
    have hye : y.l + y.b ≤ e := h.2 y (by simp)
    have hch := h.1
    rw [chain_snoc] at hch
    have hyf : y.Fits := by
      rw [Bool.and_eq_true, Bool.and_eq_true] at hch
      exact (fitsB_iff y).1 hch.2.1
    unfold Ex.Fits at hx hyf
    by_cases hg : goesB y x = true
    · have hgo := of_decide_eq_true (show decide (x.l = y.l + y.b ∧ x.a = y.a + y.b) = true from hg)
      rw [if_pos hg]
      refine ⟨⟨?_, fun z hz => ?_⟩, fun n => ?_⟩
      · rw [chain_snoc]
        rw [Bool.and_eq_true, Bool.and_eq_true] at hch ⊢
        exact ⟨hch.1, (fitsB_iff _).2 ⟨hyf.1, hyf.2.1, by simp only; omega, by simp only; omega, by simp only; omega⟩, hch.2.2⟩
      · simp at hz
        subst hz
        simp only
        omega
      · rw [where_app, where_app]
        cases whereX r' n with
        | some v => rfl
        | none =>
          simp only [Option.none_or, where_one]
          by_cases h1 : y.l ≤ n ∧ n < y.l + y.b
          · rw [if_pos (by omega), if_pos h1]; rfl
          · rw [if_neg h1, Option.none_or]
            by_cases h2 : x.l ≤ n ∧ n < x.l + x.b
            · rw [if_pos (by omega), if_pos h2]
              exact congrArg some (by omega)
            · rw [if_neg (by omega), if_neg h2]
    · rw [if_neg hg]
      have hgf : goesB y x = false := by simpa using hg
      refine ⟨⟨?_, fun z hz => ?_⟩, fun n => where_app _ _ n⟩
      · rw [chain_snoc, h.1, hxb]
        have e1 : (r' ++ [y]).getLast? = some y := by simp
        rw [e1]
        show (true && (true && mayB y x)) = true
        unfold mayB
        rw [hgf, decide_eq_true (show x.l ≥ y.l + y.b by omega)]
        rfl
      · simp at hz
        subst hz
        exact Int.le_refl _
theorem goodTo_mrg : ∀ (q r : List Ex) (s e : Int), GoodTo r s → AscTo s e q → GoodTo (mrgX r q) e ∧ ∀ n, whereX (mrgX r q) n = (whereX r n).or (whereX q n)
  | [], r, s, e, h, ha => ⟨⟨h.1, fun y hy => by have := h.2 y hy; have ha : s ≤ e := ha; show y.l + y.b ≤ e; omega⟩, fun n => by show whereX r n = (whereX r n).or none; cases whereX r n <;> rfl⟩
  | x :: q, r, s, e, h, ha => by
    obtain ⟨h1, h2⟩ := goodTo_push h ha.1 ha.2.1
    obtain ⟨h3, h4⟩ := goodTo_mrg q (pushX r x) (x.l + x.b) e h1 ha.2.2
    refine ⟨h3, fun n => ?_⟩
    show whereX (mrgX (pushX r x) q) n = _
    rw [h4, h2, where_one]
    show _ = (whereX r n).or (if x.l ≤ n ∧ n < x.l + x.b then some (x.a + n - x.l) else whereX q n)
    cases whereX r n with
    | some v => rfl
    | none =>
      simp only [Option.none_or]
      by_cases h5 : x.l ≤ n ∧ n < x.l + x.b
      · rw [if_pos h5, if_pos h5]; rfl
      · rw [if_neg h5, if_neg h5]; rfl
theorem mrg_good {q : List Ex} {s e : Int} (h : AscTo s e q) : goodB (mrgX [] q) = true ∧ ∀ n, whereX (mrgX [] q) n = whereX q n := by
  obtain ⟨h1, h2⟩ := goodTo_mrg q [] s e ⟨rfl, fun y hy => by cases hy⟩ h
  exact ⟨h1.1, fun n => by rw [h2]; rfl⟩
theorem AscTo.up {l : List Ex} : ∀ {s e f : Int}, AscTo s e l → e ≤ f → AscTo s f l := by
  induction l with
  | nil => intro s e f h hf; have h : s ≤ e := h; show s ≤ f; omega
  | cons x t ih => intro s e f h hf; exact ⟨h.1, h.2.1, ih h.2.2 hf⟩
/-- What Set makes. -/
theorem set_good {l : List Ex} {x : Ex} (hl : goodB l = true) (hx : x.Fits) : goodB (setX l x) = true ∧ ∀ n, whereX (setX l x) n = if x.l ≤ n ∧ n < x.l + x.b then some (x.a + n - x.l) else whereX l n := by
  have ha := good_asc hl
  have hx' := hx
  unfold Ex.Fits at hx'
  have a1 := asc_left 0 x.l (by omega) l 0 4096 0 ha (by omega) (.inl (by omega))
  have a2 := asc_left 0 4096 (by omega) [x] x.l 4096 x.l ⟨by omega, hx, by show _ ≤ _; omega⟩ (by omega) (.inl (by omega))
  have e2 : leftX 0 4096 [x] = [x] := by
    have hc : cutX 0 4096 x = some x := by
      unfold cutX
      rw [if_neg (by omega : ¬ x.l < 0), if_pos (by omega : x.l + x.b ≤ 4096), if_pos (by omega)]
      exact congrArg some (Ex.ext rfl (by simp only; omega) (by simp only; omega))
    simp [leftX, hc]
  have a3 := asc_left (x.l + x.b) 4096 (by omega) l 0 4096 (x.l + x.b) ha (by omega) (.inr (by omega))
  rw [e2] at a2
  have a23 : AscTo x.l 4096 ([x] ++ leftX (x.l + x.b) 4096 l) := ⟨by omega, hx, a3⟩
  obtain ⟨h1, h2⟩ := mrg_good (a1.app a23)
  unfold setX
  rw [e2]
  refine ⟨h1, fun n => ?_⟩
  rw [h2, where_app, where_app, where_left, where_left, where_one]
  by_cases c1 : x.l ≤ n ∧ n < x.l + x.b
  · rw [if_pos c1, if_pos c1, if_neg (by omega)]; rfl
  · rw [if_neg c1, if_neg c1]
    by_cases c2 : 0 ≤ n ∧ n < x.l
    · rw [if_pos c2, if_neg (by omega)]
      cases whereX l n <;> rfl
    · rw [if_neg c2]
      by_cases c3 : x.l + x.b ≤ n ∧ n < 4096
      · rw [if_pos c3]; rfl
      · rw [if_neg c3]
        show none = whereX l n
        by_cases c4 : n < 0
        · rw [ha.none_below n c4]
        · rw [ha.none_above n (by omega)]
/-- What Drop makes. -/
theorem drop_good {l : List Ex} {lba k : Int} (hl : goodB l = true) (h1 : 0 ≤ lba) (h2 : 0 ≤ k) (h3 : k ≤ 4096 - lba) : goodB (dropX l lba k) = true ∧ ∀ n, whereX (dropX l lba k) n = if lba ≤ n ∧ n < lba + k then none else whereX l n := by
  have ha := good_asc hl
  have a1 := asc_left 0 lba (by omega) l 0 4096 0 ha (by omega) (.inl (by omega))
  have a3 := asc_left (lba + k) 4096 (by omega) l 0 4096 (lba + k) ha (by omega) (.inr (by omega))
  have a1' : AscTo 0 (lba + k) (leftX 0 lba l) := a1.up (by omega)
  obtain ⟨g1, g2⟩ := mrg_good (a1'.app a3)
  unfold dropX
  refine ⟨g1, fun n => ?_⟩
  rw [g2, where_app, where_left, where_left]
  by_cases c1 : lba ≤ n ∧ n < lba + k
  · rw [if_pos c1, if_neg (by omega), if_neg (by omega)]; rfl
  · rw [if_neg c1]
    by_cases c2 : 0 ≤ n ∧ n < lba
    · rw [if_pos c2, if_neg (by omega)]
      cases whereX l n <;> rfl
    · rw [if_neg c2]
      by_cases c3 : lba + k ≤ n ∧ n < 4096
      · rw [if_pos c3]; rfl
      · rw [if_neg c3]
        show none = whereX l n
        by_cases c4 : n < 0
        · rw [ha.none_below n c4]
        · rw [ha.none_above n (by omega)]
theorem asc_length : ∀ {l : List Ex} {s e : Int}, AscTo s e l → (l.length : Int) ≤ e - s
  | [], s, e, h => by have h : s ≤ e := h; simp only [List.length_nil]; omega
  | x :: t, s, e, h => by
    have := asc_length h.2.2
    have h1 := h.1
    have h2 := h.2.1
    unfold Ex.Fits at h2
    simp only [List.length_cons]
    omega
theorem good_length {l : List Ex} (h : goodB l = true) : l.length ≤ 4096 := by
  have := asc_length (good_asc h)
  omega
end Go.Proofs.YtglfjlbhjaemgaaGreatDoor.Ext
