/- What was set is found block by block, what was dropped is nowhere, all other blocks are as they were. -/
import Derived.Test.YtdopcliicjmjeaaExTu
namespace Go.Proofs.Ytdopcliicjmjeaa
open Go.RowKit
theorem set_find {l : List Ex} {x : Ex} {E : List Ex × Int} (h : setR l x = E) (h0 : E.2 = 0) : x.Fits ∧ goodB E.1 = true ∧ ∀ n, findX E.1 n = if x.l ≤ n ∧ n < x.l + x.b then some (x.a + n - x.l) else findX l n := by
  subst h
  unfold setR at *
  by_cases hh : (goodB l && fitsB x) = true
  · rw [if_pos hh]
    rw [Bool.and_eq_true] at hh
    have hx := (fitsB_iff x).1 hh.2
    obtain ⟨g1, g2⟩ := set_good hh.1 hx
    refine ⟨hx, g1, fun n => ?_⟩
    unfold findX
    rw [if_pos g1, if_pos hh.1, g2]
  · rw [if_neg hh] at h0
    cases h0
theorem drop_find {l : List Ex} {a b : Int} {D : List Ex × Int} (h : dropR l a b = D) (h0 : D.2 = 0) : (0 ≤ a ∧ 0 ≤ b ∧ b ≤ 4096 - a) ∧ goodB D.1 = true ∧ ∀ n, findX D.1 n = if a ≤ n ∧ n < a + b then none else findX l n := by
  subst h
  unfold dropR at *
  by_cases hh : (goodB l && decide (0 ≤ a ∧ 0 ≤ b ∧ b ≤ 4096 - a)) = true
  · rw [if_pos hh]
    rw [Bool.and_eq_true] at hh
    obtain ⟨k1, k2, k3⟩ := of_decide_eq_true hh.2
    obtain ⟨g1, g2⟩ := drop_good hh.1 k1 k2 k3
    refine ⟨⟨k1, k2, k3⟩, g1, fun n => ?_⟩
    unfold findX
    rw [if_pos g1, if_pos hh.1, g2]
  · rw [if_neg hh] at h0
    cases h0
def BlAt (w : World) (A : Option Addr) (l : List Ex) (x : Ex) (a b : Int) (AE : Option Addr) (E : List Ex) (AK : Option Addr) (D : List Ex) (i : Value) (v : World) : Prop :=
  ∃ k : Nat, i = .int .i64 k ∧ Below w.heap.size w v ∧ Exts v A l ∧ Blk v w.heap.size 32 (exC x) ∧ Blk v (w.heap.size + 1) 34 #[.int .i64 a, .int .i64 b] ∧ Exts v AE E ∧ Exts v AK D
set_option maxRecDepth 100000 in
set_option maxHeartbeats 8000000 in
theorem blocks_any (A : Option Addr) (c : Nat) (l : List Ex) (x : Ex) (a b : Int) (w : World) (hl : Exts w A l) (hx : x.Wf) (ha : -9223372036854775808 ≤ a ∧ a ≤ 9223372036854775807) :
    Calls Try.prog 6 #[.slice A l.length c, exV x, .agg #[.int .i64 a, .int .i64 b]] w fun e w' => e = .returned (.bool true) ∧ Below w.heap.size w w' := by
  obtain ⟨h1, h2, h3⟩ := boxes_xr w x a b _ rfl
  have HX := Lib.hid h1; have HR := Lib.hid h2; have HB := Lib.hid h3; have HL0 := Lib.hid hl
  clear h1 h2 h3 hl
  have HLA := Lib.hid (fun v => large_any A c l.length v)
  have HGD := Lib.hid (fun v (h : Exts v A l) => refGood_any A c l v h)
  unfold exV
  go_enter Try.func6, Try.ntmps6
  go_upto_region 1 with (fail)
  change Code.wp _ _ _ _ ((w.alloc (.cells #[.int .i64 x.l, .int .i64 x.b, .int .i64 x.a] 32)).alloc (.cells #[.int .i64 a, .int .i64 b] 34))
  generalize (w.alloc (.cells #[.int .i64 x.l, .int .i64 x.b, .int .i64 x.a] 32)).alloc (.cells #[.int .i64 a, .int .i64 b] 34) = w0 at *
  have HL := Lib.hid ((HL0.out.kept (fun hn a ha => HB.out.block _ (HL0.out.lt hn a ha)) : Exts w0 A l))
  by_cases hlg : (300 < l.length ∧ l.length ≤ 4096) ∨ 5000 < l.length
  · rw [decide_eq_true hlg] at HLA
    clear hlg
    go_wp2_with (fail)
    refine (HLA.out _).mono ?_; rintro e w1 ⟨rfl, rfl⟩
    go_wp2_with (fail)
    refine (wakes_any _).mono ?_; rintro e w2 ⟨rfl, hb2⟩
    have HB2 := Lib.hid (HB.out.trans (hb2.mono HB.out.size)); clear hb2
    go_wp2_with (fail)
    go_ret
    exact ⟨rfl, HB2.out⟩
  · rw [decide_eq_false hlg] at HLA
    have hn : l.length ≤ 100000 := by omega
    clear hlg
    cases hg : goodB l with
    | false =>
      rw [hg] at HGD
      clear hg
      go_wp2_with (fail)
      refine (HLA.out _).mono ?_; rintro e w1 ⟨rfl, rfl⟩
      go_wp2_with (fail)
      refine (HGD.out _ HL.out).mono ?_; rintro e w2 ⟨rfl, hb2⟩
      replace HB := Lib.hid (HB.out.trans (hb2.mono HB.out.size)); clear hb2
      have hnt := not_false w2
      go_wp2_with (fail)
      refine (wakes_any _).mono ?_; rintro e w3 ⟨rfl, hb2⟩
      replace HB := Lib.hid (HB.out.trans (hb2.mono HB.out.size)); clear hb2
      go_wp2_with (fail)
      go_ret
      exact ⟨rfl, HB.out⟩
    | true =>
      rw [hg] at HGD
      have HG := Lib.hid hg
      have HSX := Lib.hid (fun A' c' k v (h : Exts v A' k) (hk : k.length ≤ 100000) => set_any A' c' k x v h hx (by unfold maxLen; omega))
      have HDR := Lib.hid (fun A' c' k v (h : Exts v A' k) (hk : k.length ≤ 100000) => drop_any A' c' k a b v h ha (by unfold maxLen; omega))
      unfold exV at HSX
      have HNS : (setR l x).1.length ≤ 100000 := Nat.le_trans (setR_length l x) (by omega)
      have HND : (dropR l a b).1.length ≤ 100000 := Nat.le_trans (dropR_length l a b) (by omega)
      have HXW := Lib.hid hx
      have HAW := Lib.hid ha
      clear hg hx ha
      go_wp2_with (fail)
      refine (HLA.out _).mono ?_; rintro e w1 ⟨rfl, rfl⟩
      go_wp2_with (fail)
      refine (HGD.out _ HL.out).mono ?_; rintro e w2 ⟨rfl, hb2⟩
      replace HB := Lib.hid (HB.out.trans (hb2.mono HB.out.size))
      replace HL := Lib.hid (HL.out.below hb2)
      replace HX := Lib.hid (HX.out.below hb2 HX.out.lt)
      replace HR := Lib.hid (HR.out.below hb2 HR.out.lt)
      clear hb2
      have hnt := not_true w2
      go_upto_region 3 with (fail)
      have c0 := HX.out.cell 0
      have c1 := HX.out.cell 1
      have c2 := HX.out.cell 2
      go_region_held3 (fun v => v.cell? ⟨w.heap.size, 0, none⟩ = some (.int .i64 x.l) ∧ v.cell? ⟨w.heap.size, 1, none⟩ = some (.int .i64 x.b) ∧ v.cell? ⟨w.heap.size, 2, none⟩ = some (.int .i64 x.a)) (first | exact ⟨c0, c1, c2⟩ | exact ⟨d0, d1, d2⟩ | exact ⟨f0, f1, f2⟩) (first
        | (go_at_call 11; refine (few_any A c l _ (HL.out.below (Below.refl _ _).drew) hn).mono ?_; rintro e w7 ⟨A7, c7, rfl, hx7, hb7⟩
           have hbq := (Below.refl _ _).drew.trans hb7
           have HF7 := Lib.hid hx7
           replace HB := Lib.hid (HB.out.trans (hbq.mono HB.out.size))
           replace HL := Lib.hid (HL.out.below hbq)
           replace HX := Lib.hid (HX.out.below hbq HX.out.lt)
           replace HR := Lib.hid (HR.out.below hbq HR.out.lt)
           obtain ⟨d0, d1, d2⟩ : w7.cell? ⟨w.heap.size, 0, none⟩ = some (.int .i64 x.l) ∧ w7.cell? ⟨w.heap.size, 1, none⟩ = some (.int .i64 x.b) ∧ w7.cell? ⟨w.heap.size, 2, none⟩ = some (.int .i64 x.a) := ⟨HX.out.cell 0, HX.out.cell 1, HX.out.cell 2⟩
           clear hx7 hb7 hbq)
        | (go_at_call 19; refine (HSX.out A7 c7 l _ HF7.out hn).mono ?_; rintro e w8 ⟨AE, cE, rfl, hx8, hb8⟩
           replace HB := Lib.hid (HB.out.trans (hb8.mono HB.out.size))
           replace HL := Lib.hid (HL.out.below hb8)
           replace HX := Lib.hid (HX.out.below hb8 HX.out.lt)
           replace HR := Lib.hid (HR.out.below hb8 HR.out.lt)
           have HE := Lib.hid hx8
           obtain ⟨f0, f1, f2⟩ : w8.cell? ⟨w.heap.size, 0, none⟩ = some (.int .i64 x.l) ∧ w8.cell? ⟨w.heap.size, 1, none⟩ = some (.int .i64 x.b) ∧ w8.cell? ⟨w.heap.size, 2, none⟩ = some (.int .i64 x.a) := ⟨HX.out.cell 0, HX.out.cell 1, HX.out.cell 2⟩
           clear hx8 hb8)
        | fail)
      try clear c0 c1 c2 d0 d1 d2 f0 f1 f2 HF7 hnt
      go_upto_region 4 with (fail)
      have c0 := HR.out.cell 0
      have c1 := HR.out.cell 1
      go_region_held3 (fun v => v.cell? ⟨w.heap.size + 1, 0, none⟩ = some (.int .i64 a) ∧ v.cell? ⟨w.heap.size + 1, 1, none⟩ = some (.int .i64 b)) (first | exact ⟨c0, c1⟩ | exact ⟨d0, d1⟩ | exact ⟨f0, f1⟩) (first
        | (go_at_call 11; refine (few_any A c l _ (HL.out.below (Below.refl _ _).drew) hn).mono ?_; rintro e w7 ⟨A7, c7, rfl, hx7, hb7⟩
           have hbq := (Below.refl _ _).drew.trans hb7
           have HF7 := Lib.hid hx7
           replace HB := Lib.hid (HB.out.trans (hbq.mono HB.out.size))
           replace HL := Lib.hid (HL.out.below hbq)
           replace HX := Lib.hid (HX.out.below hbq HX.out.lt)
           replace HR := Lib.hid (HR.out.below hbq HR.out.lt)
           replace HE := Lib.hid (HE.out.below hbq)
           obtain ⟨d0, d1⟩ : w7.cell? ⟨w.heap.size + 1, 0, none⟩ = some (.int .i64 a) ∧ w7.cell? ⟨w.heap.size + 1, 1, none⟩ = some (.int .i64 b) := ⟨HR.out.cell 0, HR.out.cell 1⟩
           clear hx7 hb7 hbq)
        | (go_at_call 21; refine (HDR.out A7 c7 l _ HF7.out hn).mono ?_; rintro e w8 ⟨AK, cK, rfl, hx8, hb8⟩
           replace HB := Lib.hid (HB.out.trans (hb8.mono HB.out.size))
           replace HL := Lib.hid (HL.out.below hb8)
           replace HX := Lib.hid (HX.out.below hb8 HX.out.lt)
           replace HR := Lib.hid (HR.out.below hb8 HR.out.lt)
           replace HE := Lib.hid (HE.out.below hb8)
           have HK := Lib.hid hx8
           obtain ⟨f0, f1⟩ : w8.cell? ⟨w.heap.size + 1, 0, none⟩ = some (.int .i64 a) ∧ w8.cell? ⟨w.heap.size + 1, 1, none⟩ = some (.int .i64 b) := ⟨HR.out.cell 0, HR.out.cell 1⟩
           clear hx8 hb8)
        | fail)
      try clear c0 c1 d0 d1 f0 f1 HF7
      obtain ⟨E, hE⟩ : ∃ E, setR l x = E := ⟨_, rfl⟩
      obtain ⟨D, hD⟩ : ∃ D, dropR l a b = D := ⟨_, rfl⟩
      rw [hE] at HE HNS ⊢
      rw [hD] at HK HND ⊢
      by_cases hE0 : E.2 = 0
      · by_cases hD0 : D.2 = 0
        · skip
          have hE1 : (E.2 == 0) = true := by simpa using hE0
          have hD1 : (D.2 == 0) = true := by simpa using hD0
          have HEF := Lib.hid (set_find hE hE0)
          have HEG := Lib.hid HEF.out.2.1
          have HDF := Lib.hid (drop_find hD hD0)
          have HDG := Lib.hid HDF.out.2.1
          clear hE hD hE0 hD0
          go_wp2_with (fail)
          refine (few_any AE cE E.1 _ HE.out HNS).mono ?_; rintro e w7 ⟨A7, c7, rfl, hx7, hb7⟩
          replace HB := Lib.hid (HB.out.trans (hb7.mono HB.out.size))
          replace HL := Lib.hid (HL.out.below hb7)
          replace HX := Lib.hid (HX.out.below hb7 HX.out.lt)
          replace HR := Lib.hid (HR.out.below hb7 HR.out.lt)
          replace HE := Lib.hid (HE.out.below hb7)
          replace HK := Lib.hid (HK.out.below hb7)
          have HF7 := Lib.hid hx7
          clear hx7 hb7
          go_wp2_with (fail)
          refine (good_any A7 c7 E.1 _ HF7.out (by unfold maxLen; omega)).mono ?_; rintro e w8 ⟨rfl, hb8⟩
          rw [HEG.out]
          replace HB := Lib.hid (HB.out.trans (hb8.mono HB.out.size))
          replace HL := Lib.hid (HL.out.below hb8)
          replace HX := Lib.hid (HX.out.below hb8 HX.out.lt)
          replace HR := Lib.hid (HR.out.below hb8 HR.out.lt)
          replace HE := Lib.hid (HE.out.below hb8)
          replace HK := Lib.hid (HK.out.below hb8)
          clear hb8 HF7
          try clear hnt
          have hnt := not_true w8
          go_wp2_with (fail)
          refine (few_any AK cK D.1 _ HK.out HND).mono ?_; rintro e w7 ⟨A7, c7, rfl, hx7, hb7⟩
          replace HB := Lib.hid (HB.out.trans (hb7.mono HB.out.size))
          replace HL := Lib.hid (HL.out.below hb7)
          replace HX := Lib.hid (HX.out.below hb7 HX.out.lt)
          replace HR := Lib.hid (HR.out.below hb7 HR.out.lt)
          replace HE := Lib.hid (HE.out.below hb7)
          replace HK := Lib.hid (HK.out.below hb7)
          have HF7 := Lib.hid hx7
          clear hx7 hb7
          go_wp2_with (fail)
          refine (good_any A7 c7 D.1 _ HF7.out (by unfold maxLen; omega)).mono ?_; rintro e w8 ⟨rfl, hb8⟩
          rw [HDG.out]
          replace HB := Lib.hid (HB.out.trans (hb8.mono HB.out.size))
          replace HL := Lib.hid (HL.out.below hb8)
          replace HX := Lib.hid (HX.out.below hb8 HX.out.lt)
          replace HR := Lib.hid (HR.out.below hb8 HR.out.lt)
          replace HE := Lib.hid (HE.out.below hb8)
          replace HK := Lib.hid (HK.out.below hb8)
          clear hb8 HF7
          try clear hnt
          have hnt := not_true w8
          go_wp2_with (fail)
          try clear hnt
          go_loopw [11] (fun i v => BlAt w A l x a b AE E.1 AK D.1 i v) (fun i _ => 4096 - (intOf i).toNat)
          case atStart => exact ⟨0, rfl, HB.out, HL.out, HX.out, HR.out, HE.out, HK.out⟩
          case round =>
            obtain ⟨k, rfl, g1, g2, g3, g4, g5, g6⟩ := hrel
            clear HB HL HX HR HE HK
            have HB := Lib.hid g1; have HL := Lib.hid g2; have HX := Lib.hid g3; have HR := Lib.hid g4; have HE := Lib.hid g5; have HK := Lib.hid g6
            clear g1 g2 g3 g4 g5 g6
            by_cases hkl : (k : Int) < 4096
            · obtain ⟨v, bb, hv⟩ := findV_form (findX l k)
              have HV := Lib.hid hv
              have HKL := Lib.hid hkl
              have hdv : IntKind.i64.wrap ((k : Int).tdiv 64) = ((k / 64 : Nat) : Int) := by
                rw [IntKind.wrap_i64, Int.tdiv_eq_ediv_of_nonneg (by omega)]; omega
              have hs1 : IntKind.i64.wrap (1 + ((k / 64 : Nat) : Int)) = 1 + ((k / 64 : Nat) : Int) := i64w _ (by omega)
              have hs2 : IntKind.i64.wrap ((k : Int) + (1 + ((k / 64 : Nat) : Int))) = (k : Int) + (1 + ((k / 64 : Nat) : Int)) := i64w _ (by omega)
              clear hv
              go_wp2_with (fail)
              refine (refFind_any A c l k _ HL.out).mono ?_; rintro e w4 ⟨rfl, hb4⟩
              replace HB := Lib.hid (HB.out.trans (hb4.mono HB.out.size))
              replace HL := Lib.hid (HL.out.below hb4)
              replace HX := Lib.hid (HX.out.below hb4 HX.out.lt)
              replace HR := Lib.hid (HR.out.below hb4 HR.out.lt)
              replace HE := Lib.hid (HE.out.below hb4)
              replace HK := Lib.hid (HK.out.below hb4)
              clear hb4
              rw [HV.out]
              go_wp2_with (fail)
              refine (find_any AE cE E.1 k _ HE.out HNS).mono ?_; rintro e w5 ⟨rfl, hb5⟩
              replace HB := Lib.hid (HB.out.trans (hb5.mono HB.out.size))
              replace HL := Lib.hid (HL.out.below hb5)
              replace HX := Lib.hid (HX.out.below hb5 HX.out.lt)
              replace HR := Lib.hid (HR.out.below hb5 HR.out.lt)
              replace HE := Lib.hid (HE.out.below hb5)
              replace HK := Lib.hid (HK.out.below hb5)
              clear hb5
              have a0 := HX.out.cell 0
              have a1 := HX.out.cell 1
              have a2 := HX.out.cell 2
              by_cases hq : x.l ≤ (k : Int) ∧ (k : Int) < x.l + x.b
              · have HQ := Lib.hid (HEF.out.2.2 k)
                rw [if_pos hq] at HQ
                rw [HQ.out]
                have q1 : x.l ≤ (k : Int) := hq.1
                have q2 : (k : Int) - x.l < x.b := by omega
                have q3 : IntKind.i64.wrap ((k : Int) - x.l) = (k : Int) - x.l := by have := HEF.out.1; unfold Ex.Fits at this; exact i64w _ (by omega)
                have q4 : IntKind.i64.wrap (x.a + (k : Int)) = x.a + (k : Int) := by have := HEF.out.1; have := HKL.out; unfold Ex.Fits at *; exact i64w _ (by omega)
                have q5 : IntKind.i64.wrap (x.a + (k : Int) - x.l) = x.a + (k : Int) - x.l := by have := HEF.out.1; have := HKL.out; unfold Ex.Fits at *; exact i64w _ (by omega)
                have t3 : (x.a + (k : Int) - x.l != x.a + (k : Int) - x.l) = false := by simp
                unfold findV
                have hnt := not_true w5
                clear hq
                go_upto_region 16 with (fail)
                clear a0 a1 a2 q1 q2 q3 q4 q5 t3 hnt HQ
                go_wp2_with (fail)
                refine (find_any AK cK D.1 k _ HK.out HND).mono ?_; rintro e w6 ⟨rfl, hb6⟩
                replace HB := Lib.hid (HB.out.trans (hb6.mono HB.out.size))
                replace HL := Lib.hid (HL.out.below hb6)
                replace HX := Lib.hid (HX.out.below hb6 HX.out.lt)
                replace HR := Lib.hid (HR.out.below hb6 HR.out.lt)
                replace HE := Lib.hid (HE.out.below hb6)
                replace HK := Lib.hid (HK.out.below hb6)
                clear hb6
                have r0 := HR.out.cell 0
                have r1 := HR.out.cell 1
                by_cases hq : a ≤ (k : Int) ∧ (k : Int) < a + b
                · have HQ := Lib.hid (HDF.out.2.2 k)
                  rw [if_pos hq] at HQ
                  rw [HQ.out]
                  have q1 : a ≤ (k : Int) := hq.1
                  have q2 : (k : Int) - a < b := by omega
                  have q3 : IntKind.i64.wrap ((k : Int) - a) = (k : Int) - a := by have := HDF.out.1; exact i64w _ (by omega)
                  unfold findV
                  have hnt := not_true w6
                  clear hq
                  go_wp2_with (fail)
                  go_roundw
                  case rel => exact ⟨k + 1 + k / 64, (by congr 1; omega), HB.out, HL.out, HX.out, HR.out, HE.out, HK.out⟩
                  case measure => have := HKL.out; simp [intOf]; omega
                · have HQ := Lib.hid (HDF.out.2.2 k)
                  rw [if_neg hq] at HQ
                  rw [HQ.out, HV.out]
                  have t1 : (bb != bb) = false := by simp
                  have t2 : (v != v) = false := by simp
                  by_cases q1 : a ≤ (k : Int)
                  · have q2 : ¬ (k : Int) - a < b := by omega
                    have q3 : IntKind.i64.wrap ((k : Int) - a) = (k : Int) - a := by have := HDF.out.1; exact i64w _ (by omega)
                    have hnt := not_false w6
                    clear hq
                    go_wp2_with (fail)
                    go_roundw
                    case rel => exact ⟨k + 1 + k / 64, (by congr 1; omega), HB.out, HL.out, HX.out, HR.out, HE.out, HK.out⟩
                    case measure => have := HKL.out; simp [intOf]; omega
                  · have hnt := not_false w6
                    clear hq
                    go_wp2_with (fail)
                    go_roundw
                    case rel => exact ⟨k + 1 + k / 64, (by congr 1; omega), HB.out, HL.out, HX.out, HR.out, HE.out, HK.out⟩
                    case measure => have := HKL.out; simp [intOf]; omega
              · have HQ := Lib.hid (HEF.out.2.2 k)
                rw [if_neg hq] at HQ
                rw [HQ.out, HV.out]
                have t1 : (bb != bb) = false := by simp
                have t2 : (v != v) = false := by simp
                have hnt := not_false w5
                by_cases q1 : x.l ≤ (k : Int)
                · have q2 : ¬ (k : Int) - x.l < x.b := by omega
                  have q3 : IntKind.i64.wrap ((k : Int) - x.l) = (k : Int) - x.l := by have := HEF.out.1; unfold Ex.Fits at this; exact i64w _ (by omega)
                  clear hq
                  go_upto_region 16 with (fail)
                  clear a0 a1 a2 q1 q2 q3 t1 t2 hnt HQ
                  go_wp2_with (fail)
                  refine (find_any AK cK D.1 k _ HK.out HND).mono ?_; rintro e w6 ⟨rfl, hb6⟩
                  replace HB := Lib.hid (HB.out.trans (hb6.mono HB.out.size))
                  replace HL := Lib.hid (HL.out.below hb6)
                  replace HX := Lib.hid (HX.out.below hb6 HX.out.lt)
                  replace HR := Lib.hid (HR.out.below hb6 HR.out.lt)
                  replace HE := Lib.hid (HE.out.below hb6)
                  replace HK := Lib.hid (HK.out.below hb6)
                  clear hb6
                  have r0 := HR.out.cell 0
                  have r1 := HR.out.cell 1
                  by_cases hq : a ≤ (k : Int) ∧ (k : Int) < a + b
                  · have HQ := Lib.hid (HDF.out.2.2 k)
                    rw [if_pos hq] at HQ
                    rw [HQ.out]
                    have q1 : a ≤ (k : Int) := hq.1
                    have q2 : (k : Int) - a < b := by omega
                    have q3 : IntKind.i64.wrap ((k : Int) - a) = (k : Int) - a := by have := HDF.out.1; exact i64w _ (by omega)
                    unfold findV
                    have hnt := not_true w6
                    clear hq
                    go_wp2_with (fail)
                    go_roundw
                    case rel => exact ⟨k + 1 + k / 64, (by congr 1; omega), HB.out, HL.out, HX.out, HR.out, HE.out, HK.out⟩
                    case measure => have := HKL.out; simp [intOf]; omega
                  · have HQ := Lib.hid (HDF.out.2.2 k)
                    rw [if_neg hq] at HQ
                    rw [HQ.out, HV.out]
                    have t1 : (bb != bb) = false := by simp
                    have t2 : (v != v) = false := by simp
                    by_cases q1 : a ≤ (k : Int)
                    · have q2 : ¬ (k : Int) - a < b := by omega
                      have q3 : IntKind.i64.wrap ((k : Int) - a) = (k : Int) - a := by have := HDF.out.1; exact i64w _ (by omega)
                      have hnt := not_false w6
                      clear hq
                      go_wp2_with (fail)
                      go_roundw
                      case rel => exact ⟨k + 1 + k / 64, (by congr 1; omega), HB.out, HL.out, HX.out, HR.out, HE.out, HK.out⟩
                      case measure => have := HKL.out; simp [intOf]; omega
                    · have hnt := not_false w6
                      clear hq
                      go_wp2_with (fail)
                      go_roundw
                      case rel => exact ⟨k + 1 + k / 64, (by congr 1; omega), HB.out, HL.out, HX.out, HR.out, HE.out, HK.out⟩
                      case measure => have := HKL.out; simp [intOf]; omega
                · clear hq
                  go_upto_region 16 with (fail)
                  clear a0 a1 a2 q1 t1 t2 hnt HQ
                  go_wp2_with (fail)
                  refine (find_any AK cK D.1 k _ HK.out HND).mono ?_; rintro e w6 ⟨rfl, hb6⟩
                  replace HB := Lib.hid (HB.out.trans (hb6.mono HB.out.size))
                  replace HL := Lib.hid (HL.out.below hb6)
                  replace HX := Lib.hid (HX.out.below hb6 HX.out.lt)
                  replace HR := Lib.hid (HR.out.below hb6 HR.out.lt)
                  replace HE := Lib.hid (HE.out.below hb6)
                  replace HK := Lib.hid (HK.out.below hb6)
                  clear hb6
                  have r0 := HR.out.cell 0
                  have r1 := HR.out.cell 1
                  by_cases hq : a ≤ (k : Int) ∧ (k : Int) < a + b
                  · have HQ := Lib.hid (HDF.out.2.2 k)
                    rw [if_pos hq] at HQ
                    rw [HQ.out]
                    have q1 : a ≤ (k : Int) := hq.1
                    have q2 : (k : Int) - a < b := by omega
                    have q3 : IntKind.i64.wrap ((k : Int) - a) = (k : Int) - a := by have := HDF.out.1; exact i64w _ (by omega)
                    unfold findV
                    have hnt := not_true w6
                    clear hq
                    go_wp2_with (fail)
                    go_roundw
                    case rel => exact ⟨k + 1 + k / 64, (by congr 1; omega), HB.out, HL.out, HX.out, HR.out, HE.out, HK.out⟩
                    case measure => have := HKL.out; simp [intOf]; omega
                  · have HQ := Lib.hid (HDF.out.2.2 k)
                    rw [if_neg hq] at HQ
                    rw [HQ.out, HV.out]
                    have t1 : (bb != bb) = false := by simp
                    have t2 : (v != v) = false := by simp
                    by_cases q1 : a ≤ (k : Int)
                    · have q2 : ¬ (k : Int) - a < b := by omega
                      have q3 : IntKind.i64.wrap ((k : Int) - a) = (k : Int) - a := by have := HDF.out.1; exact i64w _ (by omega)
                      have hnt := not_false w6
                      clear hq
                      go_wp2_with (fail)
                      go_roundw
                      case rel => exact ⟨k + 1 + k / 64, (by congr 1; omega), HB.out, HL.out, HX.out, HR.out, HE.out, HK.out⟩
                      case measure => have := HKL.out; simp [intOf]; omega
                    · have hnt := not_false w6
                      clear hq
                      go_wp2_with (fail)
                      go_roundw
                      case rel => exact ⟨k + 1 + k / 64, (by congr 1; omega), HB.out, HL.out, HX.out, HR.out, HE.out, HK.out⟩
                      case measure => have := HKL.out; simp [intOf]; omega
            · go_wp2_with (fail)
              refine (wakes_any _).mono ?_; rintro e w3 ⟨rfl, hb2⟩
              replace HB := Lib.hid (HB.out.trans (hb2.mono HB.out.size)); clear hb2
              go_wp2_with (fail)
              go_ret
              exact ⟨rfl, HB.out⟩
        · skip
          have hE1 : (E.2 == 0) = true := by simpa using hE0
          have hD1 : (D.2 == 0) = false := by simpa using hD0
          have HEF := Lib.hid (set_find hE hE0)
          have HEG := Lib.hid HEF.out.2.1
          clear hE hD hE0 hD0
          go_wp2_with (fail)
          refine (few_any AE cE E.1 _ HE.out HNS).mono ?_; rintro e w7 ⟨A7, c7, rfl, hx7, hb7⟩
          replace HB := Lib.hid (HB.out.trans (hb7.mono HB.out.size))
          replace HL := Lib.hid (HL.out.below hb7)
          replace HX := Lib.hid (HX.out.below hb7 HX.out.lt)
          replace HR := Lib.hid (HR.out.below hb7 HR.out.lt)
          replace HE := Lib.hid (HE.out.below hb7)
          replace HK := Lib.hid (HK.out.below hb7)
          have HF7 := Lib.hid hx7
          clear hx7 hb7
          go_wp2_with (fail)
          refine (good_any A7 c7 E.1 _ HF7.out (by unfold maxLen; omega)).mono ?_; rintro e w8 ⟨rfl, hb8⟩
          rw [HEG.out]
          replace HB := Lib.hid (HB.out.trans (hb8.mono HB.out.size))
          replace HL := Lib.hid (HL.out.below hb8)
          replace HX := Lib.hid (HX.out.below hb8 HX.out.lt)
          replace HR := Lib.hid (HR.out.below hb8 HR.out.lt)
          replace HE := Lib.hid (HE.out.below hb8)
          replace HK := Lib.hid (HK.out.below hb8)
          clear hb8 HF7
          try clear hnt
          have hnt := not_true w8
          go_wp2_with (fail)
          try clear hnt
          go_loopw [11] (fun i v => BlAt w A l x a b AE E.1 AK D.1 i v) (fun i _ => 4096 - (intOf i).toNat)
          case atStart => exact ⟨0, rfl, HB.out, HL.out, HX.out, HR.out, HE.out, HK.out⟩
          case round =>
            obtain ⟨k, rfl, g1, g2, g3, g4, g5, g6⟩ := hrel
            clear HB HL HX HR HE HK
            have HB := Lib.hid g1; have HL := Lib.hid g2; have HX := Lib.hid g3; have HR := Lib.hid g4; have HE := Lib.hid g5; have HK := Lib.hid g6
            clear g1 g2 g3 g4 g5 g6
            by_cases hkl : (k : Int) < 4096
            · obtain ⟨v, bb, hv⟩ := findV_form (findX l k)
              have HV := Lib.hid hv
              have HKL := Lib.hid hkl
              have hdv : IntKind.i64.wrap ((k : Int).tdiv 64) = ((k / 64 : Nat) : Int) := by
                rw [IntKind.wrap_i64, Int.tdiv_eq_ediv_of_nonneg (by omega)]; omega
              have hs1 : IntKind.i64.wrap (1 + ((k / 64 : Nat) : Int)) = 1 + ((k / 64 : Nat) : Int) := i64w _ (by omega)
              have hs2 : IntKind.i64.wrap ((k : Int) + (1 + ((k / 64 : Nat) : Int))) = (k : Int) + (1 + ((k / 64 : Nat) : Int)) := i64w _ (by omega)
              clear hv
              go_wp2_with (fail)
              refine (refFind_any A c l k _ HL.out).mono ?_; rintro e w4 ⟨rfl, hb4⟩
              replace HB := Lib.hid (HB.out.trans (hb4.mono HB.out.size))
              replace HL := Lib.hid (HL.out.below hb4)
              replace HX := Lib.hid (HX.out.below hb4 HX.out.lt)
              replace HR := Lib.hid (HR.out.below hb4 HR.out.lt)
              replace HE := Lib.hid (HE.out.below hb4)
              replace HK := Lib.hid (HK.out.below hb4)
              clear hb4
              rw [HV.out]
              go_wp2_with (fail)
              refine (find_any AE cE E.1 k _ HE.out HNS).mono ?_; rintro e w5 ⟨rfl, hb5⟩
              replace HB := Lib.hid (HB.out.trans (hb5.mono HB.out.size))
              replace HL := Lib.hid (HL.out.below hb5)
              replace HX := Lib.hid (HX.out.below hb5 HX.out.lt)
              replace HR := Lib.hid (HR.out.below hb5 HR.out.lt)
              replace HE := Lib.hid (HE.out.below hb5)
              replace HK := Lib.hid (HK.out.below hb5)
              clear hb5
              have a0 := HX.out.cell 0
              have a1 := HX.out.cell 1
              have a2 := HX.out.cell 2
              by_cases hq : x.l ≤ (k : Int) ∧ (k : Int) < x.l + x.b
              · have HQ := Lib.hid (HEF.out.2.2 k)
                rw [if_pos hq] at HQ
                rw [HQ.out]
                have q1 : x.l ≤ (k : Int) := hq.1
                have q2 : (k : Int) - x.l < x.b := by omega
                have q3 : IntKind.i64.wrap ((k : Int) - x.l) = (k : Int) - x.l := by have := HEF.out.1; unfold Ex.Fits at this; exact i64w _ (by omega)
                have q4 : IntKind.i64.wrap (x.a + (k : Int)) = x.a + (k : Int) := by have := HEF.out.1; have := HKL.out; unfold Ex.Fits at *; exact i64w _ (by omega)
                have q5 : IntKind.i64.wrap (x.a + (k : Int) - x.l) = x.a + (k : Int) - x.l := by have := HEF.out.1; have := HKL.out; unfold Ex.Fits at *; exact i64w _ (by omega)
                have t3 : (x.a + (k : Int) - x.l != x.a + (k : Int) - x.l) = false := by simp
                unfold findV
                have hnt := not_true w5
                clear hq
                go_upto_region 16 with (fail)
                clear a0 a1 a2 q1 q2 q3 q4 q5 t3 hnt HQ
                go_wp2_with (fail)
                go_roundw
                case rel => exact ⟨k + 1 + k / 64, (by congr 1; omega), HB.out, HL.out, HX.out, HR.out, HE.out, HK.out⟩
                case measure => have := HKL.out; simp [intOf]; omega
              · have HQ := Lib.hid (HEF.out.2.2 k)
                rw [if_neg hq] at HQ
                rw [HQ.out, HV.out]
                have t1 : (bb != bb) = false := by simp
                have t2 : (v != v) = false := by simp
                have hnt := not_false w5
                by_cases q1 : x.l ≤ (k : Int)
                · have q2 : ¬ (k : Int) - x.l < x.b := by omega
                  have q3 : IntKind.i64.wrap ((k : Int) - x.l) = (k : Int) - x.l := by have := HEF.out.1; unfold Ex.Fits at this; exact i64w _ (by omega)
                  clear hq
                  go_upto_region 16 with (fail)
                  clear a0 a1 a2 q1 q2 q3 t1 t2 hnt HQ
                  go_wp2_with (fail)
                  go_roundw
                  case rel => exact ⟨k + 1 + k / 64, (by congr 1; omega), HB.out, HL.out, HX.out, HR.out, HE.out, HK.out⟩
                  case measure => have := HKL.out; simp [intOf]; omega
                · clear hq
                  go_upto_region 16 with (fail)
                  clear a0 a1 a2 q1 t1 t2 hnt HQ
                  go_wp2_with (fail)
                  go_roundw
                  case rel => exact ⟨k + 1 + k / 64, (by congr 1; omega), HB.out, HL.out, HX.out, HR.out, HE.out, HK.out⟩
                  case measure => have := HKL.out; simp [intOf]; omega
            · go_wp2_with (fail)
              refine (wakes_any _).mono ?_; rintro e w3 ⟨rfl, hb2⟩
              replace HB := Lib.hid (HB.out.trans (hb2.mono HB.out.size)); clear hb2
              go_wp2_with (fail)
              go_ret
              exact ⟨rfl, HB.out⟩
      · by_cases hD0 : D.2 = 0
        · skip
          have hE1 : (E.2 == 0) = false := by simpa using hE0
          have hD1 : (D.2 == 0) = true := by simpa using hD0
          have HDF := Lib.hid (drop_find hD hD0)
          have HDG := Lib.hid HDF.out.2.1
          clear hE hD hE0 hD0
          go_wp2_with (fail)
          refine (few_any AK cK D.1 _ HK.out HND).mono ?_; rintro e w7 ⟨A7, c7, rfl, hx7, hb7⟩
          replace HB := Lib.hid (HB.out.trans (hb7.mono HB.out.size))
          replace HL := Lib.hid (HL.out.below hb7)
          replace HX := Lib.hid (HX.out.below hb7 HX.out.lt)
          replace HR := Lib.hid (HR.out.below hb7 HR.out.lt)
          replace HE := Lib.hid (HE.out.below hb7)
          replace HK := Lib.hid (HK.out.below hb7)
          have HF7 := Lib.hid hx7
          clear hx7 hb7
          go_wp2_with (fail)
          refine (good_any A7 c7 D.1 _ HF7.out (by unfold maxLen; omega)).mono ?_; rintro e w8 ⟨rfl, hb8⟩
          rw [HDG.out]
          replace HB := Lib.hid (HB.out.trans (hb8.mono HB.out.size))
          replace HL := Lib.hid (HL.out.below hb8)
          replace HX := Lib.hid (HX.out.below hb8 HX.out.lt)
          replace HR := Lib.hid (HR.out.below hb8 HR.out.lt)
          replace HE := Lib.hid (HE.out.below hb8)
          replace HK := Lib.hid (HK.out.below hb8)
          clear hb8 HF7
          try clear hnt
          have hnt := not_true w8
          go_wp2_with (fail)
          try clear hnt
          go_loopw [11] (fun i v => BlAt w A l x a b AE E.1 AK D.1 i v) (fun i _ => 4096 - (intOf i).toNat)
          case atStart => exact ⟨0, rfl, HB.out, HL.out, HX.out, HR.out, HE.out, HK.out⟩
          case round =>
            obtain ⟨k, rfl, g1, g2, g3, g4, g5, g6⟩ := hrel
            clear HB HL HX HR HE HK
            have HB := Lib.hid g1; have HL := Lib.hid g2; have HX := Lib.hid g3; have HR := Lib.hid g4; have HE := Lib.hid g5; have HK := Lib.hid g6
            clear g1 g2 g3 g4 g5 g6
            by_cases hkl : (k : Int) < 4096
            · obtain ⟨v, bb, hv⟩ := findV_form (findX l k)
              have HV := Lib.hid hv
              have HKL := Lib.hid hkl
              have hdv : IntKind.i64.wrap ((k : Int).tdiv 64) = ((k / 64 : Nat) : Int) := by
                rw [IntKind.wrap_i64, Int.tdiv_eq_ediv_of_nonneg (by omega)]; omega
              have hs1 : IntKind.i64.wrap (1 + ((k / 64 : Nat) : Int)) = 1 + ((k / 64 : Nat) : Int) := i64w _ (by omega)
              have hs2 : IntKind.i64.wrap ((k : Int) + (1 + ((k / 64 : Nat) : Int))) = (k : Int) + (1 + ((k / 64 : Nat) : Int)) := i64w _ (by omega)
              clear hv
              go_wp2_with (fail)
              refine (refFind_any A c l k _ HL.out).mono ?_; rintro e w4 ⟨rfl, hb4⟩
              replace HB := Lib.hid (HB.out.trans (hb4.mono HB.out.size))
              replace HL := Lib.hid (HL.out.below hb4)
              replace HX := Lib.hid (HX.out.below hb4 HX.out.lt)
              replace HR := Lib.hid (HR.out.below hb4 HR.out.lt)
              replace HE := Lib.hid (HE.out.below hb4)
              replace HK := Lib.hid (HK.out.below hb4)
              clear hb4
              rw [HV.out]
              go_wp2_with (fail)
              refine (find_any AK cK D.1 k _ HK.out HND).mono ?_; rintro e w6 ⟨rfl, hb6⟩
              replace HB := Lib.hid (HB.out.trans (hb6.mono HB.out.size))
              replace HL := Lib.hid (HL.out.below hb6)
              replace HX := Lib.hid (HX.out.below hb6 HX.out.lt)
              replace HR := Lib.hid (HR.out.below hb6 HR.out.lt)
              replace HE := Lib.hid (HE.out.below hb6)
              replace HK := Lib.hid (HK.out.below hb6)
              clear hb6
              have r0 := HR.out.cell 0
              have r1 := HR.out.cell 1
              by_cases hq : a ≤ (k : Int) ∧ (k : Int) < a + b
              · have HQ := Lib.hid (HDF.out.2.2 k)
                rw [if_pos hq] at HQ
                rw [HQ.out]
                have q1 : a ≤ (k : Int) := hq.1
                have q2 : (k : Int) - a < b := by omega
                have q3 : IntKind.i64.wrap ((k : Int) - a) = (k : Int) - a := by have := HDF.out.1; exact i64w _ (by omega)
                unfold findV
                have hnt := not_true w6
                clear hq
                go_wp2_with (fail)
                go_roundw
                case rel => exact ⟨k + 1 + k / 64, (by congr 1; omega), HB.out, HL.out, HX.out, HR.out, HE.out, HK.out⟩
                case measure => have := HKL.out; simp [intOf]; omega
              · have HQ := Lib.hid (HDF.out.2.2 k)
                rw [if_neg hq] at HQ
                rw [HQ.out, HV.out]
                have t1 : (bb != bb) = false := by simp
                have t2 : (v != v) = false := by simp
                by_cases q1 : a ≤ (k : Int)
                · have q2 : ¬ (k : Int) - a < b := by omega
                  have q3 : IntKind.i64.wrap ((k : Int) - a) = (k : Int) - a := by have := HDF.out.1; exact i64w _ (by omega)
                  have hnt := not_false w6
                  clear hq
                  go_wp2_with (fail)
                  go_roundw
                  case rel => exact ⟨k + 1 + k / 64, (by congr 1; omega), HB.out, HL.out, HX.out, HR.out, HE.out, HK.out⟩
                  case measure => have := HKL.out; simp [intOf]; omega
                · have hnt := not_false w6
                  clear hq
                  go_wp2_with (fail)
                  go_roundw
                  case rel => exact ⟨k + 1 + k / 64, (by congr 1; omega), HB.out, HL.out, HX.out, HR.out, HE.out, HK.out⟩
                  case measure => have := HKL.out; simp [intOf]; omega
            · go_wp2_with (fail)
              refine (wakes_any _).mono ?_; rintro e w3 ⟨rfl, hb2⟩
              replace HB := Lib.hid (HB.out.trans (hb2.mono HB.out.size)); clear hb2
              go_wp2_with (fail)
              go_ret
              exact ⟨rfl, HB.out⟩
        · skip
          have hE1 : (E.2 == 0) = false := by simpa using hE0
          have hD1 : (D.2 == 0) = false := by simpa using hD0
          clear hE hD hE0 hD0
          go_wp2_with (fail)
          try clear hnt
          go_loopw [11] (fun i v => BlAt w A l x a b AE E.1 AK D.1 i v) (fun i _ => 4096 - (intOf i).toNat)
          case atStart => exact ⟨0, rfl, HB.out, HL.out, HX.out, HR.out, HE.out, HK.out⟩
          case round =>
            obtain ⟨k, rfl, g1, g2, g3, g4, g5, g6⟩ := hrel
            clear HB HL HX HR HE HK
            have HB := Lib.hid g1; have HL := Lib.hid g2; have HX := Lib.hid g3; have HR := Lib.hid g4; have HE := Lib.hid g5; have HK := Lib.hid g6
            clear g1 g2 g3 g4 g5 g6
            by_cases hkl : (k : Int) < 4096
            · obtain ⟨v, bb, hv⟩ := findV_form (findX l k)
              have HV := Lib.hid hv
              have HKL := Lib.hid hkl
              have hdv : IntKind.i64.wrap ((k : Int).tdiv 64) = ((k / 64 : Nat) : Int) := by
                rw [IntKind.wrap_i64, Int.tdiv_eq_ediv_of_nonneg (by omega)]; omega
              have hs1 : IntKind.i64.wrap (1 + ((k / 64 : Nat) : Int)) = 1 + ((k / 64 : Nat) : Int) := i64w _ (by omega)
              have hs2 : IntKind.i64.wrap ((k : Int) + (1 + ((k / 64 : Nat) : Int))) = (k : Int) + (1 + ((k / 64 : Nat) : Int)) := i64w _ (by omega)
              clear hv
              go_wp2_with (fail)
              refine (refFind_any A c l k _ HL.out).mono ?_; rintro e w4 ⟨rfl, hb4⟩
              replace HB := Lib.hid (HB.out.trans (hb4.mono HB.out.size))
              replace HL := Lib.hid (HL.out.below hb4)
              replace HX := Lib.hid (HX.out.below hb4 HX.out.lt)
              replace HR := Lib.hid (HR.out.below hb4 HR.out.lt)
              replace HE := Lib.hid (HE.out.below hb4)
              replace HK := Lib.hid (HK.out.below hb4)
              clear hb4
              rw [HV.out]
              go_wp2_with (fail)
              go_roundw
              case rel => exact ⟨k + 1 + k / 64, (by congr 1; omega), HB.out, HL.out, HX.out, HR.out, HE.out, HK.out⟩
              case measure => have := HKL.out; simp [intOf]; omega
            · go_wp2_with (fail)
              refine (wakes_any _).mono ?_; rintro e w3 ⟨rfl, hb2⟩
              replace HB := Lib.hid (HB.out.trans (hb2.mono HB.out.size)); clear hb2
              go_wp2_with (fail)
              go_ret
              exact ⟨rfl, HB.out⟩
end Go.Proofs.Ytdopcliicjmjeaa
