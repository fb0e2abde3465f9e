/- Blocks that are set apart from one another come to the same in either order. -/
import Derived.Test.YtdopcliicjmjeaaExTu
namespace Go.Proofs.Ytdopcliicjmjeaa
open Go.RowKit
theorem set_again {l : List Ex} {x : Ex} (hl : goodB l = true) (hx : x.Fits) : setX (setX l x) x = setX l x := by
  obtain ⟨g1, g2⟩ := set_good hl hx
  obtain ⟨h1, h2⟩ := set_good g1 hx
  refine good_unique _ _ h1 g1 fun n => ?_
  rw [h2, g2]
  by_cases c : x.l ≤ n ∧ n < x.l + x.b
  · rw [if_pos c, if_pos c]
  · rw [if_neg c, if_neg c]
theorem set_order {l : List Ex} {x y : Ex} (hl : goodB l = true) (hx : x.Fits) (hy : y.Fits) (ha : ¬ (x.l < y.l + y.b ∧ y.l < x.l + x.b)) : setX (setX l x) y = setX (setX l y) x := by
  obtain ⟨a1, a2⟩ := set_good hl hx
  obtain ⟨b1, b2⟩ := set_good hl hy
  obtain ⟨c1, c2⟩ := set_good a1 hy
  obtain ⟨d1, d2⟩ := set_good b1 hx
  refine good_unique _ _ c1 d1 fun n => ?_
  rw [c2, d2, a2, b2]
  by_cases p : x.l ≤ n ∧ n < x.l + x.b
  · by_cases q : y.l ≤ n ∧ n < y.l + y.b
    · exact absurd ⟨by omega, by omega⟩ ha
    · rw [if_pos p, if_neg q, if_pos p]
  · by_cases q : y.l ≤ n ∧ n < y.l + y.b
    · rw [if_pos q, if_neg p, if_pos q]
    · rw [if_neg q, if_neg p, if_neg p, if_neg q]
theorem setR_good {l : List Ex} {x : Ex} (h : (setR l x).2 = 0) : goodB l = true ∧ x.Fits ∧ setR l x = (setX l x, 0) := by
  unfold setR at *
  by_cases hh : (goodB l && fitsB x) = true
  · rw [if_pos hh]
    rw [Bool.and_eq_true] at hh
    exact ⟨hh.1, (fitsB_iff x).1 hh.2, rfl⟩
  · rw [if_neg hh] at h
    cases h
theorem setR_bad {l : List Ex} {x : Ex} (h : (setR l x).2 ≠ 0) : setR l x = ([], 70) := by
  unfold setR at *
  by_cases hh : (goodB l && fitsB x) = true
  · rw [if_pos hh] at h
    exact absurd rfl h
  · rw [if_neg hh]
theorem setR_ok {l : List Ex} {x : Ex} (hl : goodB l = true) (hx : x.Fits) : setR l x = (setX l x, 0) := by
  unfold setR
  rw [hl, (fitsB_iff x).2 hx]
  rfl
theorem boxes_xy (w : World) (x y : Ex) : ∀ v, v = (w.alloc (.cells #[.int .i64 x.l, .int .i64 x.b, .int .i64 x.a] 32)).alloc (.cells #[.int .i64 y.l, .int .i64 y.b, .int .i64 y.a] 32) →
    Blk v w.heap.size 32 (exC x) ∧ Blk v (w.heap.size + 1) 32 (exC y) ∧ Below w.heap.size w v := by
  rintro v rfl
  obtain ⟨h1, h2, h3, _⟩ := two_boxes w x y _ rfl
  exact ⟨h1, h2, h3⟩
set_option maxRecDepth 100000 in
set_option maxHeartbeats 4000000 in
theorem order_any (A : Option Addr) (c : Nat) (l : List Ex) (x y : Ex) (w : World) (hl : Exts w A l) (hx : x.Wf) (hy : y.Wf) :
    Calls Try.prog 8 #[.slice A l.length c, exV x, exV y] w fun e w' => e = .returned (.bool true) ∧ Below w.heap.size w w' := by
  obtain ⟨h1, h2, h3⟩ := boxes_xy w x y _ rfl
  have HX := Lib.hid h1; have HY := Lib.hid h2; have HB := Lib.hid h3; have HL0 := Lib.hid hl
  clear h1 h2 h3 hl
  have HLA := Lib.hid (fun v => large_any A c l.length v)
  have HGD := Lib.hid (fun v (h : Exts v A l) => refGood_any A c l v h)
  unfold exV
  go_enter Try.func8, Try.ntmps8
  go_upto_region 1 with (fail)
  change Code.wp _ _ _ _ ((w.alloc (.cells #[.int .i64 x.l, .int .i64 x.b, .int .i64 x.a] 32)).alloc (.cells #[.int .i64 y.l, .int .i64 y.b, .int .i64 y.a] 32))
  generalize (w.alloc (.cells #[.int .i64 x.l, .int .i64 x.b, .int .i64 x.a] 32)).alloc (.cells #[.int .i64 y.l, .int .i64 y.b, .int .i64 y.a] 32) = w0 at *
  have HL := Lib.hid ((HL0.out.kept (fun hn a ha => HB.out.block _ (HL0.out.lt hn a ha)) : Exts w0 A l))
  by_cases hlg : (300 < l.length ∧ l.length ≤ 4096) ∨ 5000 < l.length
  · rw [decide_eq_true hlg] at HLA
    clear hlg
    go_wp2_with (fail)
    refine (HLA.out _).mono ?_; rintro e w1 ⟨rfl, rfl⟩
    go_wp2_with (fail)
    refine (wakes_any _).mono ?_; rintro e w2 ⟨rfl, hb2⟩
    have HB2 := Lib.hid (HB.out.trans (hb2.mono HB.out.size)); clear hb2
    go_wp2_with (fail)
    go_ret
    exact ⟨rfl, HB2.out⟩
  · rw [decide_eq_false hlg] at HLA
    have hn : l.length ≤ 100000 := by omega
    clear hlg
    cases hg : goodB l with
    | false =>
      rw [hg] at HGD
      clear hg
      go_wp2_with (fail)
      refine (HLA.out _).mono ?_; rintro e w1 ⟨rfl, rfl⟩
      go_wp2_with (fail)
      refine (HGD.out _ HL.out).mono ?_; rintro e w2 ⟨rfl, hb2⟩
      replace HB := Lib.hid (HB.out.trans (hb2.mono HB.out.size)); clear hb2
      have hnt := not_false w2
      go_wp2_with (fail)
      refine (wakes_any _).mono ?_; rintro e w3 ⟨rfl, hb2⟩
      replace HB := Lib.hid (HB.out.trans (hb2.mono HB.out.size)); clear hb2
      go_wp2_with (fail)
      go_ret
      exact ⟨rfl, HB.out⟩
    | true =>
      rw [hg] at HGD
      have HG := Lib.hid hg
      have HSX := Lib.hid (fun A' c' k v (h : Exts v A' k) (hk : k.length ≤ 100000) => set_any A' c' k x v h hx (by unfold maxLen; omega))
      have HSY := Lib.hid (fun A' c' k v (h : Exts v A' k) (hk : k.length ≤ 100000) => set_any A' c' k y v h hy (by unfold maxLen; omega))
      unfold exV at HSX HSY
      have HNS := Lib.hid (setR_length l x)
      have HNT := Lib.hid (setR_length l y)
      clear hg hx hy
      go_wp2_with (fail)
      refine (HLA.out _).mono ?_; rintro e w1 ⟨rfl, rfl⟩
      go_wp2_with (fail)
      refine (HGD.out _ HL.out).mono ?_; rintro e w2 ⟨rfl, hb2⟩
      replace HB := Lib.hid (HB.out.trans (hb2.mono HB.out.size))
      replace HL := Lib.hid (HL.out.below hb2)
      replace HX := Lib.hid (HX.out.below hb2 HX.out.lt)
      replace HY := Lib.hid (HY.out.below hb2 HY.out.lt)
      clear hb2
      have hnt := not_true w2
      go_upto_region 3 with (fail)
      have c0 := HX.out.cell 0
      have c1 := HX.out.cell 1
      have c2 := HX.out.cell 2
      go_region_held3 (fun v => v.cell? ⟨w.heap.size, 0, none⟩ = some (.int .i64 x.l) ∧ v.cell? ⟨w.heap.size, 1, none⟩ = some (.int .i64 x.b) ∧ v.cell? ⟨w.heap.size, 2, none⟩ = some (.int .i64 x.a)) (first | exact ⟨c0, c1, c2⟩ | exact ⟨d0, d1, d2⟩ | exact ⟨f0, f1, f2⟩) (first
        | (go_at_call 11; refine (few_any A c l _ (HL.out.below (Below.refl _ _).drew) hn).mono ?_; rintro e w7 ⟨A7, c7, rfl, hx7, hb7⟩
           have hbq := (Below.refl _ _).drew.trans hb7
           have HF7 := Lib.hid hx7
           replace HB := Lib.hid (HB.out.trans (hbq.mono HB.out.size))
           replace HL := Lib.hid (HL.out.below hbq)
           replace HX := Lib.hid (HX.out.below hbq HX.out.lt)
           replace HY := Lib.hid (HY.out.below hbq HY.out.lt)
           obtain ⟨d0, d1, d2⟩ : w7.cell? ⟨w.heap.size, 0, none⟩ = some (.int .i64 x.l) ∧ w7.cell? ⟨w.heap.size, 1, none⟩ = some (.int .i64 x.b) ∧ w7.cell? ⟨w.heap.size, 2, none⟩ = some (.int .i64 x.a) := ⟨HX.out.cell 0, HX.out.cell 1, HX.out.cell 2⟩
           clear hx7 hb7 hbq)
        | (go_at_call 19; refine (HSX.out A7 c7 l _ HF7.out hn).mono ?_; rintro e w8 ⟨AE, cE, rfl, hx8, hb8⟩
           replace HB := Lib.hid (HB.out.trans (hb8.mono HB.out.size))
           replace HL := Lib.hid (HL.out.below hb8)
           replace HX := Lib.hid (HX.out.below hb8 HX.out.lt)
           replace HY := Lib.hid (HY.out.below hb8 HY.out.lt)
           have HE := Lib.hid hx8
           obtain ⟨f0, f1, f2⟩ : w8.cell? ⟨w.heap.size, 0, none⟩ = some (.int .i64 x.l) ∧ w8.cell? ⟨w.heap.size, 1, none⟩ = some (.int .i64 x.b) ∧ w8.cell? ⟨w.heap.size, 2, none⟩ = some (.int .i64 x.a) := ⟨HX.out.cell 0, HX.out.cell 1, HX.out.cell 2⟩
           clear hx8 hb8)
        | fail)
      try clear c0 c1 c2 d0 d1 d2 f0 f1 f2 HF7 hnt
      go_upto_region 4 with (fail)
      have c0 := HY.out.cell 0
      have c1 := HY.out.cell 1
      have c2 := HY.out.cell 2
      go_region_held3 (fun v => v.cell? ⟨w.heap.size + 1, 0, none⟩ = some (.int .i64 y.l) ∧ v.cell? ⟨w.heap.size + 1, 1, none⟩ = some (.int .i64 y.b) ∧ v.cell? ⟨w.heap.size + 1, 2, none⟩ = some (.int .i64 y.a)) (first | exact ⟨c0, c1, c2⟩ | exact ⟨d0, d1, d2⟩ | exact ⟨f0, f1, f2⟩) (first
        | (go_at_call 11; refine (few_any A c l _ (HL.out.below (Below.refl _ _).drew) hn).mono ?_; rintro e w7 ⟨A7, c7, rfl, hx7, hb7⟩
           have hbq := (Below.refl _ _).drew.trans hb7
           have HF7 := Lib.hid hx7
           replace HB := Lib.hid (HB.out.trans (hbq.mono HB.out.size))
           replace HL := Lib.hid (HL.out.below hbq)
           replace HX := Lib.hid (HX.out.below hbq HX.out.lt)
           replace HY := Lib.hid (HY.out.below hbq HY.out.lt)
           replace HE := Lib.hid (HE.out.below hbq)
           obtain ⟨d0, d1, d2⟩ : w7.cell? ⟨w.heap.size + 1, 0, none⟩ = some (.int .i64 y.l) ∧ w7.cell? ⟨w.heap.size + 1, 1, none⟩ = some (.int .i64 y.b) ∧ w7.cell? ⟨w.heap.size + 1, 2, none⟩ = some (.int .i64 y.a) := ⟨HY.out.cell 0, HY.out.cell 1, HY.out.cell 2⟩
           clear hx7 hb7 hbq)
        | (go_at_call 19; refine (HSY.out A7 c7 l _ HF7.out hn).mono ?_; rintro e w8 ⟨AF, cF, rfl, hx8, hb8⟩
           replace HB := Lib.hid (HB.out.trans (hb8.mono HB.out.size))
           replace HL := Lib.hid (HL.out.below hb8)
           replace HX := Lib.hid (HX.out.below hb8 HX.out.lt)
           replace HY := Lib.hid (HY.out.below hb8 HY.out.lt)
           replace HE := Lib.hid (HE.out.below hb8)
           have HF := Lib.hid hx8
           obtain ⟨f0, f1, f2⟩ : w8.cell? ⟨w.heap.size + 1, 0, none⟩ = some (.int .i64 y.l) ∧ w8.cell? ⟨w.heap.size + 1, 1, none⟩ = some (.int .i64 y.b) ∧ w8.cell? ⟨w.heap.size + 1, 2, none⟩ = some (.int .i64 y.a) := ⟨HY.out.cell 0, HY.out.cell 1, HY.out.cell 2⟩
           clear hx8 hb8)
        | fail)
      try clear c0 c1 c2 d0 d1 d2 f0 f1 f2 HF7
      by_cases hfx : fitsB x = true
      · have hxf := (fitsB_iff x).1 hfx
        have HEQ := Lib.hid (setR_ok (l := l) (x := x) HG.out hxf)
        by_cases hfy : fitsB y = true
        · have hyf := (fitsB_iff y).1 hfy
          have HFQ := Lib.hid (setR_ok (l := l) (x := y) HG.out hyf)
          have g1 := (set_good HG.out hxf).1
          have g2 := (set_good HG.out hyf).1
          have HAQ := Lib.hid (show setR (setX l x) x = (setX l x, 0) by rw [setR_ok g1 hxf, set_again HG.out hxf])
          have HCQ := Lib.hid (setR_ok (l := setX l x) (x := y) g1 hyf)
          have HDQ := Lib.hid (fun (ha : ¬ (x.l < y.l + y.b ∧ y.l < x.l + x.b)) => (show setR (setX l y) x = (setX (setX l x) y, 0) by rw [setR_ok g2 hxf, set_order HG.out hxf hyf ha]))
          have hn1 : (setX l x).length ≤ 100000 := Nat.le_trans (good_length g1) (by omega)
          have hn2 : (setX l y).length ≤ 100000 := Nat.le_trans (good_length g2) (by omega)
          have hn3 : (setX (setX l x) y).length ≤ 100000 := Nat.le_trans (good_length (set_good g1 hyf).1) (by omega)
          obtain ⟨s1, s2, _, _⟩ := fits_sums hxf
          obtain ⟨s3, s4, _, _⟩ := fits_sums hyf
          have e1 : IntKind.i64.wrap (x.l + x.b) = x.l + x.b := i64w _ ⟨s1, s2⟩
          have e2 : IntKind.i64.wrap (y.l + y.b) = y.l + y.b := i64w _ ⟨s3, s4⟩
          rw [HEQ.out] at HE
          rw [HFQ.out] at HF
          rw [HEQ.out, HFQ.out]
          clear HEQ HFQ hfx hfy hxf hyf g1 g2 s1 s2 s3 s4 HNS HNT
          obtain ⟨P, hP⟩ : ∃ P, setX l x = P := ⟨_, rfl⟩
          obtain ⟨R, hR⟩ : ∃ R, setX l y = R := ⟨_, rfl⟩
          rw [hP] at HE HAQ HCQ HDQ hn1 hn3 ⊢
          rw [hR] at HF HDQ hn2 ⊢
          obtain ⟨T, hT⟩ : ∃ T, setX P y = T := ⟨_, rfl⟩
          rw [hT] at HCQ HDQ hn3
          clear hP hR hT
          dsimp only at HE HF
          go_upto_region 7 with (fail)
          have c0 := HX.out.cell 0
          have c1 := HX.out.cell 1
          have c2 := HX.out.cell 2
          go_region_held3 (fun v => v.cell? ⟨w.heap.size, 0, none⟩ = some (.int .i64 x.l) ∧ v.cell? ⟨w.heap.size, 1, none⟩ = some (.int .i64 x.b) ∧ v.cell? ⟨w.heap.size, 2, none⟩ = some (.int .i64 x.a)) (first | exact ⟨c0, c1, c2⟩ | exact ⟨d0, d1, d2⟩ | exact ⟨f0, f1, f2⟩) (first
            | (go_at_call 11; refine (few_any AE cE P _ (HE.out.below (Below.refl _ _).drew) hn1).mono ?_; rintro e w7 ⟨A7, c7, rfl, hx7, hb7⟩
               have hbq := (Below.refl _ _).drew.trans hb7
               have HF7 := Lib.hid hx7
               replace HB := Lib.hid (HB.out.trans (hbq.mono HB.out.size))
               replace HL := Lib.hid (HL.out.below hbq)
               replace HX := Lib.hid (HX.out.below hbq HX.out.lt)
               replace HY := Lib.hid (HY.out.below hbq HY.out.lt)
               replace HE := Lib.hid (HE.out.below hbq)
               replace HF := Lib.hid (HF.out.below hbq)
               obtain ⟨d0, d1, d2⟩ : w7.cell? ⟨w.heap.size, 0, none⟩ = some (.int .i64 x.l) ∧ w7.cell? ⟨w.heap.size, 1, none⟩ = some (.int .i64 x.b) ∧ w7.cell? ⟨w.heap.size, 2, none⟩ = some (.int .i64 x.a) := ⟨HX.out.cell 0, HX.out.cell 1, HX.out.cell 2⟩
               clear hx7 hb7 hbq)
            | (go_at_call 19; refine (HSX.out A7 c7 P _ HF7.out hn1).mono ?_; rintro e w8 ⟨AI, cI, rfl, hx8, hb8⟩
               replace HB := Lib.hid (HB.out.trans (hb8.mono HB.out.size))
               replace HL := Lib.hid (HL.out.below hb8)
               replace HX := Lib.hid (HX.out.below hb8 HX.out.lt)
               replace HY := Lib.hid (HY.out.below hb8 HY.out.lt)
               replace HE := Lib.hid (HE.out.below hb8)
               replace HF := Lib.hid (HF.out.below hb8)
               have HI := Lib.hid hx8
               obtain ⟨f0, f1, f2⟩ : w8.cell? ⟨w.heap.size, 0, none⟩ = some (.int .i64 x.l) ∧ w8.cell? ⟨w.heap.size, 1, none⟩ = some (.int .i64 x.b) ∧ w8.cell? ⟨w.heap.size, 2, none⟩ = some (.int .i64 x.a) := ⟨HX.out.cell 0, HX.out.cell 1, HX.out.cell 2⟩
               clear hx8 hb8)
            | fail)
          try clear c0 c1 c2 d0 d1 d2 f0 f1 f2 HF7
          rw [HAQ.out] at HI ⊢
          dsimp only at HI
          go_wp2_with (fail)
          refine (same_eq AI AE cI cE P _ HI.out HE.out hn1).mono ?_; rintro e w9 ⟨rfl, hb9⟩
          replace HB := Lib.hid (HB.out.trans (hb9.mono HB.out.size))
          replace HL := Lib.hid (HL.out.below hb9)
          replace HX := Lib.hid (HX.out.below hb9 HX.out.lt)
          replace HY := Lib.hid (HY.out.below hb9 HY.out.lt)
          replace HE := Lib.hid (HE.out.below hb9)
          replace HF := Lib.hid (HF.out.below hb9)
          clear hb9
          have hnt := not_true w9
          have a0 := HX.out.cell 0
          have a1 := HX.out.cell 1
          have b0 := HY.out.cell 0
          have b1 := HY.out.cell 1
          by_cases p : x.l < y.l + y.b
          · by_cases q : y.l < x.l + x.b
            · go_wp2_with (fail)
              refine (wakes_any _).mono ?_; rintro e w3 ⟨rfl, hb2⟩
              replace HB := Lib.hid (HB.out.trans (hb2.mono HB.out.size)); clear hb2
              go_wp2_with (fail)
              go_ret
              exact ⟨rfl, HB.out⟩
            · have HDD := Lib.hid (HDQ.out (fun h => q h.2))
              clear HAQ HI
              go_upto_region 12 with (fail)
              clear hnt a0 a1 b0 b1
              have c0 := HY.out.cell 0
              have c1 := HY.out.cell 1
              have c2 := HY.out.cell 2
              go_region_held3 (fun v => v.cell? ⟨w.heap.size + 1, 0, none⟩ = some (.int .i64 y.l) ∧ v.cell? ⟨w.heap.size + 1, 1, none⟩ = some (.int .i64 y.b) ∧ v.cell? ⟨w.heap.size + 1, 2, none⟩ = some (.int .i64 y.a)) (first | exact ⟨c0, c1, c2⟩ | exact ⟨d0, d1, d2⟩ | exact ⟨f0, f1, f2⟩) (first
                | (go_at_call 11; refine (few_any AE cE P _ (HE.out.below (Below.refl _ _).drew) hn1).mono ?_; rintro e w7 ⟨A7, c7, rfl, hx7, hb7⟩
                   have hbq := (Below.refl _ _).drew.trans hb7
                   have HF7 := Lib.hid hx7
                   replace HB := Lib.hid (HB.out.trans (hbq.mono HB.out.size))
                   replace HL := Lib.hid (HL.out.below hbq)
                   replace HX := Lib.hid (HX.out.below hbq HX.out.lt)
                   replace HY := Lib.hid (HY.out.below hbq HY.out.lt)
                   replace HE := Lib.hid (HE.out.below hbq)
                   replace HF := Lib.hid (HF.out.below hbq)
                   obtain ⟨d0, d1, d2⟩ : w7.cell? ⟨w.heap.size + 1, 0, none⟩ = some (.int .i64 y.l) ∧ w7.cell? ⟨w.heap.size + 1, 1, none⟩ = some (.int .i64 y.b) ∧ w7.cell? ⟨w.heap.size + 1, 2, none⟩ = some (.int .i64 y.a) := ⟨HY.out.cell 0, HY.out.cell 1, HY.out.cell 2⟩
                   clear hx7 hb7 hbq)
                | (go_at_call 19; refine (HSY.out A7 c7 P _ HF7.out hn1).mono ?_; rintro e w8 ⟨AJ, cJ, rfl, hx8, hb8⟩
                   replace HB := Lib.hid (HB.out.trans (hb8.mono HB.out.size))
                   replace HL := Lib.hid (HL.out.below hb8)
                   replace HX := Lib.hid (HX.out.below hb8 HX.out.lt)
                   replace HY := Lib.hid (HY.out.below hb8 HY.out.lt)
                   replace HE := Lib.hid (HE.out.below hb8)
                   replace HF := Lib.hid (HF.out.below hb8)
                   have HJ := Lib.hid hx8
                   obtain ⟨f0, f1, f2⟩ : w8.cell? ⟨w.heap.size + 1, 0, none⟩ = some (.int .i64 y.l) ∧ w8.cell? ⟨w.heap.size + 1, 1, none⟩ = some (.int .i64 y.b) ∧ w8.cell? ⟨w.heap.size + 1, 2, none⟩ = some (.int .i64 y.a) := ⟨HY.out.cell 0, HY.out.cell 1, HY.out.cell 2⟩
                   clear hx8 hb8)
                | fail)
              try clear c0 c1 c2 d0 d1 d2 f0 f1 f2 HF7
              rw [HCQ.out] at HJ ⊢
              dsimp only at HJ
              go_upto_region 13 with (fail)
              have c0 := HX.out.cell 0
              have c1 := HX.out.cell 1
              have c2 := HX.out.cell 2
              go_region_held3 (fun v => v.cell? ⟨w.heap.size, 0, none⟩ = some (.int .i64 x.l) ∧ v.cell? ⟨w.heap.size, 1, none⟩ = some (.int .i64 x.b) ∧ v.cell? ⟨w.heap.size, 2, none⟩ = some (.int .i64 x.a)) (first | exact ⟨c0, c1, c2⟩ | exact ⟨d0, d1, d2⟩ | exact ⟨f0, f1, f2⟩) (first
                | (go_at_call 11; refine (few_any AF cF R _ (HF.out.below (Below.refl _ _).drew) hn2).mono ?_; rintro e w7 ⟨A7, c7, rfl, hx7, hb7⟩
                   have hbq := (Below.refl _ _).drew.trans hb7
                   have HF7 := Lib.hid hx7
                   replace HB := Lib.hid (HB.out.trans (hbq.mono HB.out.size))
                   replace HL := Lib.hid (HL.out.below hbq)
                   replace HX := Lib.hid (HX.out.below hbq HX.out.lt)
                   replace HY := Lib.hid (HY.out.below hbq HY.out.lt)
                   replace HE := Lib.hid (HE.out.below hbq)
                   replace HF := Lib.hid (HF.out.below hbq)
                   replace HJ := Lib.hid (HJ.out.below hbq)
                   obtain ⟨d0, d1, d2⟩ : w7.cell? ⟨w.heap.size, 0, none⟩ = some (.int .i64 x.l) ∧ w7.cell? ⟨w.heap.size, 1, none⟩ = some (.int .i64 x.b) ∧ w7.cell? ⟨w.heap.size, 2, none⟩ = some (.int .i64 x.a) := ⟨HX.out.cell 0, HX.out.cell 1, HX.out.cell 2⟩
                   clear hx7 hb7 hbq)
                | (go_at_call 19; refine (HSX.out A7 c7 R _ HF7.out hn2).mono ?_; rintro e w8 ⟨AK, cK, rfl, hx8, hb8⟩
                   replace HB := Lib.hid (HB.out.trans (hb8.mono HB.out.size))
                   replace HL := Lib.hid (HL.out.below hb8)
                   replace HX := Lib.hid (HX.out.below hb8 HX.out.lt)
                   replace HY := Lib.hid (HY.out.below hb8 HY.out.lt)
                   replace HE := Lib.hid (HE.out.below hb8)
                   replace HF := Lib.hid (HF.out.below hb8)
                   replace HJ := Lib.hid (HJ.out.below hb8)
                   have HK := Lib.hid hx8
                   obtain ⟨f0, f1, f2⟩ : w8.cell? ⟨w.heap.size, 0, none⟩ = some (.int .i64 x.l) ∧ w8.cell? ⟨w.heap.size, 1, none⟩ = some (.int .i64 x.b) ∧ w8.cell? ⟨w.heap.size, 2, none⟩ = some (.int .i64 x.a) := ⟨HX.out.cell 0, HX.out.cell 1, HX.out.cell 2⟩
                   clear hx8 hb8)
                | fail)
              try clear c0 c1 c2 d0 d1 d2 f0 f1 f2 HF7
              rw [HDD.out] at HK ⊢
              dsimp only at HK
              go_wp2_with (fail)
              refine (same_eq AJ AK cJ cK T _ HJ.out HK.out hn3).mono ?_; rintro e w9 ⟨rfl, hb9⟩
              replace HB := Lib.hid (HB.out.trans (hb9.mono HB.out.size)); clear hb9
              go_wp2_with (fail)
              refine (wakes_any _).mono ?_; rintro e w3 ⟨rfl, hb2⟩
              replace HB := Lib.hid (HB.out.trans (hb2.mono HB.out.size)); clear hb2
              go_wp2_with (fail)
              go_ret
              exact ⟨rfl, HB.out⟩
          · have HDD := Lib.hid (HDQ.out (fun h => p h.1))
            clear HAQ HI
            go_upto_region 12 with (fail)
            clear hnt a0 a1 b0 b1
            have c0 := HY.out.cell 0
            have c1 := HY.out.cell 1
            have c2 := HY.out.cell 2
            go_region_held3 (fun v => v.cell? ⟨w.heap.size + 1, 0, none⟩ = some (.int .i64 y.l) ∧ v.cell? ⟨w.heap.size + 1, 1, none⟩ = some (.int .i64 y.b) ∧ v.cell? ⟨w.heap.size + 1, 2, none⟩ = some (.int .i64 y.a)) (first | exact ⟨c0, c1, c2⟩ | exact ⟨d0, d1, d2⟩ | exact ⟨f0, f1, f2⟩) (first
              | (go_at_call 11; refine (few_any AE cE P _ (HE.out.below (Below.refl _ _).drew) hn1).mono ?_; rintro e w7 ⟨A7, c7, rfl, hx7, hb7⟩
                 have hbq := (Below.refl _ _).drew.trans hb7
                 have HF7 := Lib.hid hx7
                 replace HB := Lib.hid (HB.out.trans (hbq.mono HB.out.size))
                 replace HL := Lib.hid (HL.out.below hbq)
                 replace HX := Lib.hid (HX.out.below hbq HX.out.lt)
                 replace HY := Lib.hid (HY.out.below hbq HY.out.lt)
                 replace HE := Lib.hid (HE.out.below hbq)
                 replace HF := Lib.hid (HF.out.below hbq)
                 obtain ⟨d0, d1, d2⟩ : w7.cell? ⟨w.heap.size + 1, 0, none⟩ = some (.int .i64 y.l) ∧ w7.cell? ⟨w.heap.size + 1, 1, none⟩ = some (.int .i64 y.b) ∧ w7.cell? ⟨w.heap.size + 1, 2, none⟩ = some (.int .i64 y.a) := ⟨HY.out.cell 0, HY.out.cell 1, HY.out.cell 2⟩
                 clear hx7 hb7 hbq)
              | (go_at_call 19; refine (HSY.out A7 c7 P _ HF7.out hn1).mono ?_; rintro e w8 ⟨AJ, cJ, rfl, hx8, hb8⟩
                 replace HB := Lib.hid (HB.out.trans (hb8.mono HB.out.size))
                 replace HL := Lib.hid (HL.out.below hb8)
                 replace HX := Lib.hid (HX.out.below hb8 HX.out.lt)
                 replace HY := Lib.hid (HY.out.below hb8 HY.out.lt)
                 replace HE := Lib.hid (HE.out.below hb8)
                 replace HF := Lib.hid (HF.out.below hb8)
                 have HJ := Lib.hid hx8
                 obtain ⟨f0, f1, f2⟩ : w8.cell? ⟨w.heap.size + 1, 0, none⟩ = some (.int .i64 y.l) ∧ w8.cell? ⟨w.heap.size + 1, 1, none⟩ = some (.int .i64 y.b) ∧ w8.cell? ⟨w.heap.size + 1, 2, none⟩ = some (.int .i64 y.a) := ⟨HY.out.cell 0, HY.out.cell 1, HY.out.cell 2⟩
                 clear hx8 hb8)
              | fail)
            try clear c0 c1 c2 d0 d1 d2 f0 f1 f2 HF7
            rw [HCQ.out] at HJ ⊢
            dsimp only at HJ
            go_upto_region 13 with (fail)
            have c0 := HX.out.cell 0
            have c1 := HX.out.cell 1
            have c2 := HX.out.cell 2
            go_region_held3 (fun v => v.cell? ⟨w.heap.size, 0, none⟩ = some (.int .i64 x.l) ∧ v.cell? ⟨w.heap.size, 1, none⟩ = some (.int .i64 x.b) ∧ v.cell? ⟨w.heap.size, 2, none⟩ = some (.int .i64 x.a)) (first | exact ⟨c0, c1, c2⟩ | exact ⟨d0, d1, d2⟩ | exact ⟨f0, f1, f2⟩) (first
              | (go_at_call 11; refine (few_any AF cF R _ (HF.out.below (Below.refl _ _).drew) hn2).mono ?_; rintro e w7 ⟨A7, c7, rfl, hx7, hb7⟩
                 have hbq := (Below.refl _ _).drew.trans hb7
                 have HF7 := Lib.hid hx7
                 replace HB := Lib.hid (HB.out.trans (hbq.mono HB.out.size))
                 replace HL := Lib.hid (HL.out.below hbq)
                 replace HX := Lib.hid (HX.out.below hbq HX.out.lt)
                 replace HY := Lib.hid (HY.out.below hbq HY.out.lt)
                 replace HE := Lib.hid (HE.out.below hbq)
                 replace HF := Lib.hid (HF.out.below hbq)
                 replace HJ := Lib.hid (HJ.out.below hbq)
                 obtain ⟨d0, d1, d2⟩ : w7.cell? ⟨w.heap.size, 0, none⟩ = some (.int .i64 x.l) ∧ w7.cell? ⟨w.heap.size, 1, none⟩ = some (.int .i64 x.b) ∧ w7.cell? ⟨w.heap.size, 2, none⟩ = some (.int .i64 x.a) := ⟨HX.out.cell 0, HX.out.cell 1, HX.out.cell 2⟩
                 clear hx7 hb7 hbq)
              | (go_at_call 19; refine (HSX.out A7 c7 R _ HF7.out hn2).mono ?_; rintro e w8 ⟨AK, cK, rfl, hx8, hb8⟩
                 replace HB := Lib.hid (HB.out.trans (hb8.mono HB.out.size))
                 replace HL := Lib.hid (HL.out.below hb8)
                 replace HX := Lib.hid (HX.out.below hb8 HX.out.lt)
                 replace HY := Lib.hid (HY.out.below hb8 HY.out.lt)
                 replace HE := Lib.hid (HE.out.below hb8)
                 replace HF := Lib.hid (HF.out.below hb8)
                 replace HJ := Lib.hid (HJ.out.below hb8)
                 have HK := Lib.hid hx8
                 obtain ⟨f0, f1, f2⟩ : w8.cell? ⟨w.heap.size, 0, none⟩ = some (.int .i64 x.l) ∧ w8.cell? ⟨w.heap.size, 1, none⟩ = some (.int .i64 x.b) ∧ w8.cell? ⟨w.heap.size, 2, none⟩ = some (.int .i64 x.a) := ⟨HX.out.cell 0, HX.out.cell 1, HX.out.cell 2⟩
                 clear hx8 hb8)
              | fail)
            try clear c0 c1 c2 d0 d1 d2 f0 f1 f2 HF7
            rw [HDD.out] at HK ⊢
            dsimp only at HK
            go_wp2_with (fail)
            refine (same_eq AJ AK cJ cK T _ HJ.out HK.out hn3).mono ?_; rintro e w9 ⟨rfl, hb9⟩
            replace HB := Lib.hid (HB.out.trans (hb9.mono HB.out.size)); clear hb9
            go_wp2_with (fail)
            refine (wakes_any _).mono ?_; rintro e w3 ⟨rfl, hb2⟩
            replace HB := Lib.hid (HB.out.trans (hb2.mono HB.out.size)); clear hb2
            go_wp2_with (fail)
            go_ret
            exact ⟨rfl, HB.out⟩
        · have HFQ := Lib.hid (show setR l y = ([], 70) by unfold setR; rw [HG.out]; simp [hfy])
          rw [HEQ.out, HFQ.out]
          clear hxf hfx hfy
          go_wp2_with (fail)
          refine (wakes_any _).mono ?_; rintro e w3 ⟨rfl, hb2⟩
          replace HB := Lib.hid (HB.out.trans (hb2.mono HB.out.size)); clear hb2
          go_wp2_with (fail)
          go_ret
          exact ⟨rfl, HB.out⟩
      · have HEQ := Lib.hid (show setR l x = ([], 70) by unfold setR; rw [HG.out]; simp [hfx])
        rw [HEQ.out]
        by_cases hfy : fitsB y = true
        · have HFQ := Lib.hid (setR_ok (l := l) (x := y) HG.out ((fitsB_iff y).1 hfy))
          rw [HFQ.out]
          clear hfx hfy
          go_wp2_with (fail)
          refine (wakes_any _).mono ?_; rintro e w3 ⟨rfl, hb2⟩
          replace HB := Lib.hid (HB.out.trans (hb2.mono HB.out.size)); clear hb2
          go_wp2_with (fail)
          go_ret
          exact ⟨rfl, HB.out⟩
        · have HFQ := Lib.hid (show setR l y = ([], 70) by unfold setR; rw [HG.out]; simp [hfy])
          rw [HFQ.out]
          clear hfx hfy
          go_wp2_with (fail)
          refine (wakes_any _).mono ?_; rintro e w3 ⟨rfl, hb2⟩
          replace HB := Lib.hid (HB.out.trans (hb2.mono HB.out.size)); clear hb2
          go_wp2_with (fail)
          go_ret
          exact ⟨rfl, HB.out⟩
end Go.Proofs.Ytdopcliicjmjeaa
