/- The code's Set and Drop. -/
import Derived.Test.YtdopcliicjmjeaaExO
namespace Go.Proofs.Ytdopcliicjmjeaa
open Go.RowKit
theorem merged_any (ps : List Part) (B : Nat) (w : World) (hB : ∀ (j : Nat) p, ps[j]? = some p → w.cell? ⟨B, j, none⟩ = some p.v) (hBl : B < w.heap.size) (hp : ∀ p ∈ ps, PartOk w p) (hlen : (outs ps).length ≤ 1000000) (hpl : ps.length ≤ 1000) (r : List Ex) (hr : mrgX [] (outs ps) = r) :
    Calls Try.prog 32 #[.slice (some ⟨B, 0, none⟩) ps.length ps.length] w fun e w' => ∃ A c, e = .returned (.slice A r.length c) ∧ Exts w' A r ∧ Below w.heap.size w w' := by
  refine (callsIn_wide.1 (merged_in ps B w hB hBl hp hlen hpl)).mono ?_
  rintro e w' ⟨v, rfl, hrow, hb⟩
  have hsm := (mrg_small (outs ps) 0 [] (fun y hy => by cases hy) (outs_fits hp)).1
  rw [hr] at hsm hrow
  obtain ⟨A, c, rfl, hex, _⟩ := exts_of_own hrow (fun x hx => by
    have := hsm x hx
    unfold Small at this
    exact Ex.Wf.of_small (k := 4096 * ((0 + (outs ps).length : Nat) : Int)) this (by omega))
  exact ⟨A, c, rfl, hex, hb⟩
theorem IterAt.more {w v : World} {b0 b1 b2 : Nat} {A : Option Addr} {c : Nat} {l : List Ex} {lo hi : Int} (h : IterAt w.heap.size w b0 b1 b2 A c l lo hi) (hb : Below w.heap.size w v) : IterAt v.heap.size v b0 b1 b2 A c l lo hi := by
  have h2 := h.below hb
  have hs := hb.size
  exact ⟨h2.c0, h2.c1, h2.c2, Nat.lt_of_lt_of_le h2.k0 hs, Nat.lt_of_lt_of_le h2.k1 hs, Nat.lt_of_lt_of_le h2.k2 hs, h2.ext, fun hn a ha => Nat.lt_of_lt_of_le (h2.kA hn a ha) hs⟩
theorem PartOk.more {w v : World} {p : Part} (h : PartOk w p) (hb : Below w.heap.size w v) : PartOk v p := ⟨h.it.more hb, h.lo, h.hi, h.fit, h.len⟩
theorem merged3 (P1 P2 P3 : Part) (V : World) (h1 : PartOk V P1) (h2 : PartOk V P2) (h3 : PartOk V P3) (hlen : (outs [P1, P2, P3]).length ≤ 1000000) (r : List Ex) (hr : mrgX [] (outs [P1, P2, P3]) = r) :
    Calls Try.prog 32 #[.slice (some ⟨V.heap.size, 0, none⟩) 3 3] (V.alloc (.cells #[P1.v, P2.v, P3.v] 58)) fun e w' => ∃ A c, e = .returned (.slice A r.length c) ∧ Exts w' A r ∧ Below V.heap.size V w' := by
  have hb := (Below.refl V.heap.size V).alloc (Nat.le_refl _) (.cells #[P1.v, P2.v, P3.v] 58)
  have hk := Blk.new V 58 #[P1.v, P2.v, P3.v]
  refine (merged_any [P1, P2, P3] V.heap.size (V.alloc (.cells #[P1.v, P2.v, P3.v] 58)) ?_ hk.lt ?_ hlen (by simp) r hr).mono ?_
  · intro j p hj
    match j, hj with
    | 0, hj => simp at hj; subst hj; exact hk.cell 0
    | 1, hj => simp at hj; subst hj; exact hk.cell 1
    | 2, hj => simp at hj; subst hj; exact hk.cell 2
  · intro p hp
    simp at hp
    rcases hp with rfl | rfl | rfl
    · exact h1.more hb
    · exact h2.more hb
    · exact h3.more hb
  · rintro e w' ⟨A, c, h4, h5, h6⟩
    exact ⟨A, c, h4, h5, hb.trans (h6.mono hb.size)⟩
theorem merged2 (P1 P2 : Part) (V : World) (h1 : PartOk V P1) (h2 : PartOk V P2) (hlen : (outs [P1, P2]).length ≤ 1000000) (r : List Ex) (hr : mrgX [] (outs [P1, P2]) = r) :
    Calls Try.prog 32 #[.slice (some ⟨V.heap.size, 0, none⟩) 2 2] (V.alloc (.cells #[P1.v, P2.v] 58)) fun e w' => ∃ A c, e = .returned (.slice A r.length c) ∧ Exts w' A r ∧ Below V.heap.size V w' := by
  have hb := (Below.refl V.heap.size V).alloc (Nat.le_refl _) (.cells #[P1.v, P2.v] 58)
  have hk := Blk.new V 58 #[P1.v, P2.v]
  refine (merged_any [P1, P2] V.heap.size (V.alloc (.cells #[P1.v, P2.v] 58)) ?_ hk.lt ?_ hlen (by simp) r hr).mono ?_
  · intro j p hj
    match j, hj with
    | 0, hj => simp at hj; subst hj; exact hk.cell 0
    | 1, hj => simp at hj; subst hj; exact hk.cell 1
  · intro p hp
    simp at hp
    rcases hp with rfl | rfl
    · exact h1.more hb
    · exact h2.more hb
  · rintro e w' ⟨A, c, h4, h5, h6⟩
    exact ⟨A, c, h4, h5, hb.trans (h6.mono hb.size)⟩
theorem left_length (lo hi : Int) (l : List Ex) : (leftX lo hi l).length ≤ l.length := List.length_filterMap_le _ _
theorem mk_left (a b c : Value) (v : World) : Sem.run Try.prog (Instr.makeFunc (Fn.func 43) #[] #[a, b, c]) v = .ok (.func (.func 43) #[] #[a, b, c]) v := by kernel_rfl
theorem iter_new (A : Option Addr) (c : Nat) (l : List Ex) (lo hi : Int) (w : World) (hl : Exts w A l) : ∀ v, v = ((w.alloc (.cells #[.slice A l.length c] 22)).alloc (.cells #[.int .i64 lo] 3)).alloc (.cells #[.int .i64 hi] 3) →
    IterAt v.heap.size v w.heap.size (w.heap.size + 1) (w.heap.size + 1 + 1) A c l lo hi ∧ Below w.heap.size w v := by
  rintro v rfl
  have hb1 := (Below.refl w.heap.size w).alloc (Nat.le_refl _) (.cells #[.slice A l.length c] 22)
  have hb2 := hb1.alloc (by simp) (.cells #[.int .i64 lo] 3)
  have hb3 := hb2.alloc (by simp only [World.size_alloc]; omega) (.cells #[.int .i64 hi] 3)
  have k0 := ((Blk.new w 22 #[.slice A l.length c]).alloc (.cells #[.int .i64 lo] 3)).alloc (.cells #[.int .i64 hi] 3)
  have k1 := (Blk.new (w.alloc (.cells #[.slice A l.length c] 22)) 3 #[.int .i64 lo]).alloc (.cells #[.int .i64 hi] 3)
  have k2 := Blk.new ((w.alloc (.cells #[.slice A l.length c] 22)).alloc (.cells #[.int .i64 lo] 3)) 3 #[.int .i64 hi]
  simp only [World.size_alloc] at k1 k2
  refine ⟨⟨k0.cell 0, k1.cell 0, k2.cell 0, by simp only [World.size_alloc]; omega, by simp only [World.size_alloc]; omega, by simp only [World.size_alloc]; omega, hl.below hb3, fun hn a ha => ?_⟩, hb3⟩
  have := hl.lt hn a ha
  simp only [World.size_alloc]
  omega
set_option maxHeartbeats 1000000 in
theorem left_any (A : Option Addr) (c : Nat) (l : List Ex) (lo hi : Int) (w : World) (hl : Exts w A l) :
    Calls Try.prog 33 #[.slice A l.length c, .int .i64 lo, .int .i64 hi] w fun e w' => ∃ b0 b1 b2, e = .returned (.func (.func 43) #[] #[.pointer (some ⟨b0, 0, none⟩), .pointer (some ⟨b1, 0, none⟩), .pointer (some ⟨b2, 0, none⟩)]) ∧ IterAt w'.heap.size w' b0 b1 b2 A c l lo hi ∧ Below w.heap.size w w' := by
  have HI := Lib.hid (iter_new A c l lo hi w hl _ rfl); clear hl
  have hmk := mk_left (.pointer (some ⟨w.heap.size, 0, none⟩)) (.pointer (some ⟨w.heap.size + 1, 0, none⟩)) (.pointer (some ⟨w.heap.size + 1 + 1, 0, none⟩)) (((w.alloc (.cells #[.slice A l.length c] 22)).alloc (.cells #[.int .i64 lo] 3)).alloc (.cells #[.int .i64 hi] 3))
  go_enter Try.func33, Try.ntmps33
  go_wp2_with (fail)
  go_ret
  exact ⟨_, _, _, rfl, HI.out.1, HI.out.2⟩
/-- A list with the blocks of x stored where x says. -/
def setX (l : List Ex) (x : Ex) : List Ex := mrgX [] (leftX 0 x.l l ++ (leftX 0 4096 [x] ++ leftX (x.l + x.b) 4096 l))
def dropX (l : List Ex) (lba n : Int) : List Ex := mrgX [] (leftX 0 lba l ++ leftX (lba + n) 4096 l)
theorem alone_new (w : World) (x : Ex) (hx : x.Wf) : ∀ v, v = (w.alloc (.cells #[.int .i64 x.l, .int .i64 x.b, .int .i64 x.a] 32)).alloc (.cells #[.int .i64 x.l, .int .i64 x.b, .int .i64 x.a] 32) →
    Blk v w.heap.size 32 (exC x) ∧ Exts v (some ⟨w.heap.size + 1, 0, none⟩) [x] ∧ Below w.heap.size w v := by
  rintro v rfl
  obtain ⟨h1, h2, h3, _⟩ := two_boxes w x x _ rfl
  refine ⟨h1, fun _ => ⟨_, _, rfl, fun j y hj => ?_⟩, h3⟩
  cases j with
  | zero =>
    simp at hj
    subst hj
    exact ⟨hx, h2.cell 0, h2.cell 1, h2.cell 2⟩
  | succ j => simp at hj
set_option maxRecDepth 100000 in
set_option maxHeartbeats 4000000 in
theorem set_ok (A : Option Addr) (c : Nat) (l : List Ex) (x : Ex) (w : World) (hl : Exts w A l) (hg : goodB l = true) (hx : x.Wf) (hf : fitsB x = true) (hn : l.length ≤ 100000) (hfit : ∀ y ∈ l, y.Fits) :
    Calls Try.prog 19 #[.slice A l.length c, exV x] w fun e w' => ∃ A' c', e = .returned (.tuple #[.slice A' (setX l x).length c', .int .i64 0]) ∧ Exts w' A' (setX l x) ∧ Below w.heap.size w w' := by
  obtain ⟨hbx, hal, hb0⟩ := alone_new w x hx _ rfl
  have HL0 := Lib.hid hl; have HX := Lib.hid hbx; have HA := Lib.hid hal; have HB0 := Lib.hid hb0
  have hg1 : goodB [x] = true := by unfold goodB chainB; rw [hf]; rfl
  have HG := Lib.hid hg; have HG1 := Lib.hid hg1; have HF := Lib.hid hf
  clear hl hbx hal hb0 hg hg1 hf
  unfold exV
  go_enter Try.func19, Try.ntmps19
  go_upto_region 2 with (fail)
  change Code.wp _ _ _ _ ((w.alloc (.cells #[.int .i64 x.l, .int .i64 x.b, .int .i64 x.a] 32)).alloc (.cells #[.int .i64 x.l, .int .i64 x.b, .int .i64 x.a] 32))
  generalize hw0 : (w.alloc (.cells #[.int .i64 x.l, .int .i64 x.b, .int .i64 x.a] 32)).alloc (.cells #[.int .i64 x.l, .int .i64 x.b, .int .i64 x.a] 32) = w0 at *
  clear hw0
  have HGA := Lib.hid (fun v (h : Exts v A l) => good_any A c l v h (by unfold maxLen; omega))
  rw [HG.out] at HGA
  have HGB := Lib.hid (fun v (h : Exts v (some ⟨w.heap.size + 1, 0, none⟩) [x]) => good_any (some ⟨w.heap.size + 1, 0, none⟩) 1 [x] v h (by unfold maxLen; simp))
  rw [HG1.out] at HGB
  have HL := Lib.hid ((HL0.out.kept (fun hn a ha => HB0.out.block _ (HL0.out.lt hn a ha)) : Exts w0 A l))
  go_wp2_with (fail)
  refine (HGA.out _ HL.out).mono ?_; rintro e w1 ⟨rfl, hb1⟩
  have HL1 := Lib.hid (HL.out.below hb1)
  have HA1 := Lib.hid (HA.out.below hb1)
  have HX1 := Lib.hid (HX.out.below hb1 HX.out.lt)
  have HB1 := Lib.hid (HB0.out.trans (hb1.mono HB0.out.size))
  clear hb1
  have hnt : Sem.run Try.prog (Op.unary UnOp.not (.bool true)) w1 = .ok (.bool false) w1 := rfl
  go_wp2_with (fail)
  refine (HGB.out _ HA1.out).mono ?_; rintro e w2 ⟨rfl, hb2⟩
  have HL2 := Lib.hid (HL1.out.below hb2)
  have HA2 := Lib.hid (HA1.out.below hb2)
  have HX2 := Lib.hid (HX1.out.below hb2 HX1.out.lt)
  have HB2 := Lib.hid (HB1.out.trans (hb2.mono HB1.out.size))
  clear hb2 hnt
  have hnt : Sem.run Try.prog (Op.unary UnOp.not (.bool true)) w2 = .ok (.bool false) w2 := rfl
  go_upto_region 4 with (fail)
  have a0 := HX2.out.cell 0
  have a1 := HX2.out.cell 1
  have a2 := HX2.out.cell 2
  have hff := (fitsB_iff x).1 HF.out
  have HFT1 := Lib.hid (show ∀ y ∈ [x], y.Fits from fun y hy => by simp at hy; subst hy; exact hff)
  obtain ⟨s1, s2, _, _⟩ := fits_sums hff
  unfold Ex.Fits at hff
  have HBD := Lib.hid (show (0 ≤ x.l + x.b ∧ x.l + x.b ≤ 4096) ∧ (0 ≤ x.l ∧ x.l ≤ 4096) by omega)
  have HFT := Lib.hid hfit
  have HLEN := Lib.hid (fun (p q r : Nat × Nat × Nat) => (by
    unfold outs Part.out
    simp only [List.flatMap_cons, List.flatMap_nil, List.length_append, List.length_nil]
    have e1 := left_length 0 x.l l
    have e2 := left_length 0 4096 [x]
    have e3 := left_length (x.l + x.b) 4096 l
    simp only [List.length_cons, List.length_nil] at e2
    omega : (outs [⟨p.1, p.2.1, p.2.2, A, c, l, 0, x.l⟩, ⟨q.1, q.2.1, q.2.2, some ⟨w.heap.size + 1, 0, none⟩, 1, [x], 0, 4096⟩, ⟨r.1, r.2.1, r.2.2, A, c, l, x.l + x.b, 4096⟩]).length ≤ 1000000))
  have HR := Lib.hid (fun (p q r : Nat × Nat × Nat) => (by
    unfold outs Part.out setX
    simp only [List.flatMap_cons, List.flatMap_nil, List.append_nil] : mrgX [] (outs [⟨p.1, p.2.1, p.2.2, A, c, l, 0, x.l⟩, ⟨q.1, q.2.1, q.2.2, some ⟨w.heap.size + 1, 0, none⟩, 1, [x], 0, 4096⟩, ⟨r.1, r.2.1, r.2.2, A, c, l, x.l + x.b, 4096⟩]) = setX l x))
  clear hff
  go_region_held3 (fun v => v.cell? ⟨w.heap.size, 0, none⟩ = some (.int .i64 x.l) ∧ v.cell? ⟨w.heap.size, 1, none⟩ = some (.int .i64 x.b) ∧ v.cell? ⟨w.heap.size, 2, none⟩ = some (.int .i64 x.a)) (first | exact ⟨a0, a1, a2⟩ | exact ⟨b0, b1, b2⟩ | exact ⟨c0, c1, c2⟩ | exact ⟨d0, d1, d2⟩ | exact ⟨f0, f1, f2⟩ | exact ⟨g0, g1, g2⟩ | exact ⟨k0, k1, k2⟩) (first
    | (go_at_call 33; refine (left_any A c l 0 x.l _ (HL2.out.below (Below.refl _ _).drew)).mono ?_; rintro e w3 ⟨p0, p1, p2, rfl, hI3, hb3⟩
       have HI3 := Lib.hid hI3
       have HL3 := Lib.hid ((HL2.out.below (Below.refl _ _).drew).below hb3)
       have HA3 := Lib.hid ((HA2.out.below (Below.refl _ _).drew).below hb3)
       obtain ⟨b0, b1, b2⟩ := blk_cells3 HX2.out ((Below.refl _ _).drew.trans hb3)
       have HB3 := Lib.hid (HB2.out.drew.trans (hb3.mono HB2.out.drew.size))
       clear hI3 hb3)
    | (go_at_call 33; refine (left_any (some ⟨w.heap.size + 1, 0, none⟩) 1 [x] 0 4096 _ HA3.out).mono ?_; rintro e w4 ⟨q0, q1, q2, rfl, hI4, hb4⟩
       have HI4 := Lib.hid hI4
       have HJ4 := Lib.hid (HI3.out.more hb4)
       have HL4 := Lib.hid (HL3.out.below hb4)
       have HB4 := Lib.hid (HB3.out.trans (hb4.mono HB3.out.size))
       have c0 := (hb4.cell (p := ⟨w.heap.size, 0, none⟩) (World.block_lt_of_cell? _ _ b0)).trans b0
       have c1 := (hb4.cell (p := ⟨w.heap.size, 1, none⟩) (World.block_lt_of_cell? _ _ b1)).trans b1
       have c2 := (hb4.cell (p := ⟨w.heap.size, 2, none⟩) (World.block_lt_of_cell? _ _ b2)).trans b2
       clear hI4 hb4)
    | (go_at_call 27; refine (end_any x _ s1 s2).mono ?_; rintro e w5 ⟨rfl, hb5⟩
       have HI5 := Lib.hid (HI4.out.more hb5)
       have HJ5 := Lib.hid (HJ4.out.more hb5)
       have HL5 := Lib.hid (HL4.out.below hb5)
       have HB5 := Lib.hid (HB4.out.trans (hb5.mono HB4.out.size))
       have d0 := (hb5.cell (p := ⟨w.heap.size, 0, none⟩) (World.block_lt_of_cell? _ _ c0)).trans c0
       have d1 := (hb5.cell (p := ⟨w.heap.size, 1, none⟩) (World.block_lt_of_cell? _ _ c1)).trans c1
       have d2 := (hb5.cell (p := ⟨w.heap.size, 2, none⟩) (World.block_lt_of_cell? _ _ c2)).trans c2
       clear hb5)
    | (go_at_call 33; refine (left_any A c l (x.l + x.b) 4096 _ HL5.out).mono ?_; rintro e w6 ⟨r0, r1, r2, rfl, hI6, hb6⟩
       have HP3 := Lib.hid (show PartOk w6 ⟨r0, r1, r2, A, c, l, x.l + x.b, 4096⟩ from ⟨hI6, HBD.out.1, (show (0 : Int) ≤ 4096 ∧ (4096 : Int) ≤ 4096 by omega), HFT.out, hn⟩)
       have HP1 := Lib.hid (show PartOk w6 ⟨p0, p1, p2, A, c, l, 0, x.l⟩ from ⟨HJ5.out.more hb6, (show (0 : Int) ≤ 0 ∧ (0 : Int) ≤ 4096 by omega), HBD.out.2, HFT.out, hn⟩)
       have HP2 := Lib.hid (show PartOk w6 ⟨q0, q1, q2, some ⟨w.heap.size + 1, 0, none⟩, 1, [x], 0, 4096⟩ from ⟨HI5.out.more hb6, (show (0 : Int) ≤ 0 ∧ (0 : Int) ≤ 4096 by omega), (show (0 : Int) ≤ 4096 ∧ (4096 : Int) ≤ 4096 by omega), HFT1.out, (show [x].length ≤ 100000 by simp)⟩)
       have hm := merged3 _ _ _ w6 HP1.out HP2.out HP3.out (HLEN.out (p0, p1, p2) (q0, q1, q2) (r0, r1, r2)) (setX l x) (HR.out (p0, p1, p2) (q0, q1, q2) (r0, r1, r2))
       simp only [Part.v] at hm
       have HMG := Lib.hid hm
       clear hm
       have HB6 := Lib.hid (HB5.out.trans (hb6.mono HB5.out.size))
       have f0 := (hb6.cell (p := ⟨w.heap.size, 0, none⟩) (World.block_lt_of_cell? _ _ d0)).trans d0
       have f1 := (hb6.cell (p := ⟨w.heap.size, 1, none⟩) (World.block_lt_of_cell? _ _ d1)).trans d1
       have f2 := (hb6.cell (p := ⟨w.heap.size, 2, none⟩) (World.block_lt_of_cell? _ _ d2)).trans d2
       have hal := (Below.refl w6.heap.size w6).alloc (Nat.le_refl _) (.cells #[.func (.func 43) #[] #[.pointer (some ⟨p0, 0, none⟩), .pointer (some ⟨p1, 0, none⟩), .pointer (some ⟨p2, 0, none⟩)], .func (.func 43) #[] #[.pointer (some ⟨q0, 0, none⟩), .pointer (some ⟨q1, 0, none⟩), .pointer (some ⟨q2, 0, none⟩)], .func (.func 43) #[] #[.pointer (some ⟨r0, 0, none⟩), .pointer (some ⟨r1, 0, none⟩), .pointer (some ⟨r2, 0, none⟩)]] 58)
       have g0 := (hal.cell (p := ⟨w.heap.size, 0, none⟩) (World.block_lt_of_cell? _ _ f0)).trans f0
       have g1 := (hal.cell (p := ⟨w.heap.size, 1, none⟩) (World.block_lt_of_cell? _ _ f1)).trans f1
       have g2 := (hal.cell (p := ⟨w.heap.size, 2, none⟩) (World.block_lt_of_cell? _ _ f2)).trans f2
       clear hI6 hb6 hal)
    | (go_at_call 32; refine HMG.out.mono ?_; rintro e w7 ⟨A', c', rfl, hx7, hb7⟩
       have HX7 := Lib.hid hx7
       have HB7 := Lib.hid (HB6.out.trans (hb7.mono HB6.out.size))
       have k0 := (hb7.cell (p := ⟨w.heap.size, 0, none⟩) (World.block_lt_of_cell? _ _ f0)).trans f0
       have k1 := (hb7.cell (p := ⟨w.heap.size, 1, none⟩) (World.block_lt_of_cell? _ _ f1)).trans f1
       have k2 := (hb7.cell (p := ⟨w.heap.size, 2, none⟩) (World.block_lt_of_cell? _ _ f2)).trans f2
       clear hx7 hb7)
    | fail)
  all_goals (go_wp2_with (fail); go_ret2; exact ⟨_, _, rfl, HX7.out, HB7.out⟩)
end Go.Proofs.Ytdopcliicjmjeaa
