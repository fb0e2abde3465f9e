/- The code of what an outcome is told by is that outcomes, and no other ones: the statement. -/
import Derived.Test.YthcaeihpdlgcaaaDoorSnI
import Derived.Deep.DeepCutAuto
namespace Go.Proofs.YthcaeihpdlgcaaaDoor
open Go.RowKit
set_option maxRecDepth 100000 in
set_option maxHeartbeats 16000000 in
theorem senseCodes_any {T : World → Prop} (P : Code16 T) (c t u : Int) (r : Rs) (hc : In64 c) (ht4 : In64 t) (hu : In64 u) (c2 t2 u2 : Int) (r2 : Rs) (hc2 : In64 c2) (ht2 : In64 t2) (hu2 : In64 u2) (w : World) (ht : T w) : Calls Tryd.prog 6 #[ouV c t u r, ouV c2 t2 u2 r2] w fun e w' => e = .returned (.bool true) ∧ Below w.heap.size w w' := by
  have HT := Lib.hid ht
  clear ht
  have HW := Lib.hid (fun v (hv : T v) => sense_wakes P v hv)
  have HOF := Lib.hid (fun v hv => P.off c t u v hv hc ht4 hu)
  have HPF := Lib.hid (fun v hv => P.off c2 t2 u2 v hv hc2 ht2 hu2)
  obtain ⟨o, ho, h1, h2, h3⟩ := cod_is c t u
  obtain ⟨o2, ho2, _, _, _⟩ := cod_is c2 t2 u2
  have hb1 := of_bnd c t u
  have hb2 := of_bnd c2 t2 u2
  generalize (ofX c t u).1 = n at *
  generalize (ofX c t u).2 = x at *
  generalize (ofX c2 t2 u2).1 = m at *
  generalize (ofX c2 t2 u2).2 = y at *
  have HCo := Lib.hid ho; have HCo2 := Lib.hid ho2
  have HC1 : Hid (∀ v, T v → Calls Tryd.prog 15 #[.int .i64 n, snV x] v fun e w' => e = .returned (.tuple #[.int .i64 o.c, .int .i64 o.t, .int .i64 o.w, .bool true]) ∧ Below v.heap.size v w') := Lib.hid (fun v hv => by have h := P.code n x v hv hb1.1 hb1.2; rw [HCo.out] at h; exact h)
  have HC2 : Hid (∀ v, T v → Calls Tryd.prog 15 #[.int .i64 m, snV y] v fun e w' => e = .returned (.tuple #[.int .i64 o2.c, .int .i64 o2.t, .int .i64 o2.w, .bool true]) ∧ Below v.heap.size v w') := Lib.hid (fun v hv => by have h := P.code m y v hv hb2.1 hb2.2; rw [HCo2.out] at h; exact h)
  have HSE := Lib.hid (fun v => senses_any x y v)
  have HO1 := Lib.hid (cod_of ho); have HO2 := Lib.hid (cod_of ho2)
  have q1 : (o.c != c) = false ∨ (o.c != 8) = false := by
    rcases h1 with h | h
    · left; rw [h]; simp
    · right; rw [h]; rfl
  have H2 := Lib.hid h2; have H3 := Lib.hid h3
  clear hb1 hb2 ho ho2 h1 h2 h3 hc ht4 hu hc2 ht2 hu2
  have HB0 := Lib.hid (((Below.refl w.heap.size w).alloc (Nat.le_refl _) (.cells (ouC c t u r) 41)).alloc (by simp) (.cells (ouC c2 t2 u2 r2) 41))
  have HO0 := Lib.hid ((Blk.new w 41 (ouC c t u r)).alloc (.cells (ouC c2 t2 u2 r2) 41))
  have HQ0 := Lib.hid (show Blk ((w.alloc (.cells (ouC c t u r) 41)).alloc (.cells (ouC c2 t2 u2 r2) 41)) (w.heap.size + 1) 41 (ouC c2 t2 u2 r2) by
    have := Blk.new (w.alloc (.cells (ouC c t u r) 41)) 41 (ouC c2 t2 u2 r2)
    rwa [show (w.alloc (.cells (ouC c t u r) 41)).heap.size = w.heap.size + 1 by simp] at this)
  go_enter Tryd.func6, Tryd.ntmps6
  go_upto_region 1 with (fail)
  change Code.wp _ _ _ _ ((w.alloc (.cells (ouC c t u r) 41)).alloc (.cells (ouC c2 t2 u2 r2) 41))
  have hsz : (w.alloc (.cells (ouC c t u r) 41)).heap.size = w.heap.size + 1 := by simp
  generalize (w.alloc (.cells (ouC c t u r) 41)).alloc (.cells (ouC c2 t2 u2 r2) 41) = v0 at *
  try rw [hsz]
  clear hsz
  obtain ⟨p, hp⟩ : ∃ p, p = w.heap.size := ⟨_, rfl⟩
  rw [← hp] at HO0 HQ0 ⊢
  clear hp
  have HB := HB0; have HO := HO0; have HQ := HQ0
  clear HB0 HO0 HQ0
  have c0 : v0.cell? ⟨p, 0, none⟩ = some (.int .i64 c) := HO.out.cell 0
  have c2_ : v0.cell? ⟨p, 2, none⟩ = some (.int .i64 t) := HO.out.cell 2
  have c3 : v0.cell? ⟨p, 3, none⟩ = some (.int .i64 u) := HO.out.cell 3
  go_wp2_with (fail)
  refine (HOF.out v0 (tt P HT HB)).mono ?_; rintro e v1 ⟨rfl, hb⟩
  replace HB := Lib.hid (HB.out.trans (hb.mono HB.out.size)); replace HO := Lib.hid (HO.out.below hb HO.out.lt); replace HQ := Lib.hid (HQ.out.below hb HQ.out.lt); clear hb
  clear c0 c2_ c3
  go_upto_region 2 with (fail)
  change Code.wp _ _ _ _ (v1.alloc (.cells (snC x) 23))
  have hb := (Below.refl v1.heap.size v1).alloc (Nat.le_refl _) (.cells (snC x) 23)
  replace HB := Lib.hid (HB.out.trans (hb.mono HB.out.size)); replace HO := Lib.hid (HO.out.below hb HO.out.lt); replace HQ := Lib.hid (HQ.out.below hb HQ.out.lt); 
  have HX := Lib.hid (Blk.new v1 23 (snC x))
  obtain ⟨g, hg⟩ : ∃ g, g = v1.heap.size := ⟨_, rfl⟩
  rw [← hg] at HX ⊢
  clear hb hg
  generalize v1.alloc (.cells (snC x) 23) = v2 at *
  refine wp_region_lit ?_
  refine wpList_runs rfl (some 29) rfl (.int .i64 n) v2 (by rfl) ?_
  refine wpList_load_row rfl 23 (.tmp 6) rfl g rfl 23 (snC x) (0, 0) _ HX.out Tryd.underlying23 rfl sn_info ?_
  go_wp2_with (fail)
  refine (HC1.out v2 (tt P HT HB)).mono ?_; rintro e v3 ⟨rfl, hb⟩
  replace HB := Lib.hid (HB.out.trans (hb.mono HB.out.size)); replace HO := Lib.hid (HO.out.below hb HO.out.lt); replace HQ := Lib.hid (HQ.out.below hb HQ.out.lt); replace HX := Lib.hid (HX.out.below hb HX.out.lt); clear hb
  have c0 : v3.cell? ⟨p, 0, none⟩ = some (.int .i64 c) := HO.out.cell 0
  have c2_ : v3.cell? ⟨p, 2, none⟩ = some (.int .i64 t) := HO.out.cell 2
  have c3 : v3.cell? ⟨p, 3, none⟩ = some (.int .i64 u) := HO.out.cell 3
  have e0 : v3.cell? ⟨p + 1, 0, none⟩ = some (.int .i64 c2) := HQ.out.cell 0
  have e2 : v3.cell? ⟨p + 1, 2, none⟩ = some (.int .i64 t2) := HQ.out.cell 2
  have e3 : v3.cell? ⟨p + 1, 3, none⟩ = some (.int .i64 u2) := HQ.out.cell 3
  go_upto_region 5 with (fail)
  go_cut [45] (fun s45 wx => s45 = .bool false ∧ wx = v3)
  case first =>
    rcases q1 with q1 | q1
    · go_wp2_with (fail)
      go_meet
      exact ⟨rfl, rfl⟩
    · cases q2 : (o.c != c) with
      | true =>
        go_wp2_with (fail)
        go_meet
        exact ⟨rfl, rfl⟩
      | false =>
        go_wp2_with (fail)
        go_meet
        exact ⟨rfl, rfl⟩
  case rest =>
    obtain ⟨rfl, rfl⟩ := hcut
    clear q1
    go_upto_region 7 with (fail)
    go_cut [63] (fun s63 wx => s63 = .bool false ∧ wx = wc)
    case first =>
      cases q3 : (o.c == 3) with
      | true =>
        have q4 : (o.t != t) = false := by rw [H2.out (by simpa using q3)]; simp
        have q5 : (o.c == 7) = false := by rw [show o.c = 3 by simpa using q3]; rfl
        go_wp2_with (fail)
        go_meet
        exact ⟨rfl, rfl⟩
      | false =>
        cases q5 : (o.c == 7) with
        | true =>
          have q6 : (o.w != u) = false := by rw [H3.out (by simpa using q5)]; simp
          go_wp2_with (fail)
          go_meet
          exact ⟨rfl, rfl⟩
        | false =>
          go_wp2_with (fail)
          go_meet
          exact ⟨rfl, rfl⟩
    case rest =>
      obtain ⟨rfl, rfl⟩ := hcut
      clear c0 c2_ c3
      go_upto_region 9 with (fail)
      go_wp2_with (fail)
      refine (HPF.out _ (tt P HT HB)).mono ?_; rintro e v4 ⟨rfl, hb⟩
      replace HB := Lib.hid (HB.out.trans (hb.mono HB.out.size)); replace HX := Lib.hid (HX.out.below hb HX.out.lt); clear hb
      clear e0 e2 e3 HO HQ
      go_upto_region 10 with (fail)
      change Code.wp _ _ _ _ (v4.alloc (.cells (snC y) 23))
      have hb := (Below.refl v4.heap.size v4).alloc (Nat.le_refl _) (.cells (snC y) 23)
      replace HB := Lib.hid (HB.out.trans (hb.mono HB.out.size)); replace HX := Lib.hid (HX.out.below hb HX.out.lt); 
      have HY := Lib.hid (Blk.new v4 23 (snC y))
      obtain ⟨h, hg⟩ : ∃ g, g = v4.heap.size := ⟨_, rfl⟩
      rw [← hg] at HY ⊢
      clear hb hg
      generalize v4.alloc (.cells (snC y) 23) = v5 at *
      refine wp_region_lit ?_
      refine wpList_runs rfl (some 76) rfl (.int .i64 m) v5 (by rfl) ?_
      refine wpList_load_row rfl 23 (.tmp 12) rfl h rfl 23 (snC y) (0, 0) _ HY.out Tryd.underlying23 rfl sn_info ?_
      go_wp2_with (fail)
      refine (HC2.out v5 (tt P HT HB)).mono ?_; rintro e v6 ⟨rfl, hb⟩
      replace HB := Lib.hid (HB.out.trans (hb.mono HB.out.size)); replace HX := Lib.hid (HX.out.below hb HX.out.lt); replace HY := Lib.hid (HY.out.below hb HY.out.lt); clear hb
      have c0 : v6.cell? ⟨g, 0, none⟩ = some (.int .i64 x.k) := HX.out.cell 0
      have c1 : v6.cell? ⟨g, 1, none⟩ = some (.int .i64 x.a) := HX.out.cell 1
      have c2 : v6.cell? ⟨g, 2, none⟩ = some (.int .i64 x.q) := HX.out.cell 2
      have c3 : v6.cell? ⟨g, 3, none⟩ = some (.int .i64 x.t) := HX.out.cell 3
      have d0 : v6.cell? ⟨h, 0, none⟩ = some (.int .i64 y.k) := HY.out.cell 0
      have d1 : v6.cell? ⟨h, 1, none⟩ = some (.int .i64 y.a) := HY.out.cell 1
      have d2 : v6.cell? ⟨h, 2, none⟩ = some (.int .i64 y.q) := HY.out.cell 2
      have d3 : v6.cell? ⟨h, 3, none⟩ = some (.int .i64 y.t) := HY.out.cell 3
      go_upto_region 11 with (fail)
      have HEQ := Lib.hid (show (n = m ∧ x = y) ↔ (o.c = o2.c ∧ o.t = o2.t ∧ o.w = o2.w) by
        constructor
        · rintro ⟨rfl, rfl⟩
          obtain rfl := Option.some.inj (HCo.out.symm.trans HCo2.out)
          exact ⟨rfl, rfl, rfl⟩
        · rintro ⟨a, b, d⟩
          have h := HO1.out
          rw [a, b, d, HO2.out] at h
          exact ⟨(Prod.mk.inj h).1.symm, (Prod.mk.inj h).2.symm⟩)
      go_cut [4] (fun s4 wx => s4 = .bool true ∧ Below w.heap.size w wx)
      case first =>
        cases r1 : (n == m) with
        | true =>
          go_wp2_with (fail)
          refine (HSE.out _).mono ?_; rintro e v7 ⟨rfl, hb⟩
          replace HB := Lib.hid (HB.out.trans (hb.mono HB.out.size))
          clear hb c0 c1 c2 c3 d0 d1 d2 d3
          by_cases hxy : x = y
          · obtain ⟨a, b, d⟩ := HEQ.out.1 ⟨by simpa using r1, hxy⟩
            rw [decide_eq_true hxy]
            have s1 : (o.c == o2.c) = true := by rw [a]; simp
            have s2 : (o.t == o2.t) = true := by rw [b]; simp
            have s3 : (o.w == o2.w) = true := by rw [d]; simp
            clear hxy a b d r1
            go_wp2_with (fail)
            refine (HW.out _ (tt P HT HB)).mono ?_; rintro e v8 ⟨rfl, hb⟩
            replace HB := Lib.hid (HB.out.trans (hb.mono HB.out.size))
            clear hb
            go_wp2_with (fail)
            go_meet
            exact ⟨rfl, HB.out⟩
          · rw [decide_eq_false hxy]
            have hne : ¬ (o.c = o2.c ∧ o.t = o2.t ∧ o.w = o2.w) := fun h => hxy (HEQ.out.2 h).2
            clear hxy r1
            have HNE := Lib.hid hne
            clear hne
            cases s1 : (o.c == o2.c) with
            | false =>
              go_wp2_with (fail)
              refine (HW.out _ (tt P HT HB)).mono ?_; rintro e v8 ⟨rfl, hb⟩
              replace HB := Lib.hid (HB.out.trans (hb.mono HB.out.size))
              clear hb
              go_wp2_with (fail)
              go_meet
              exact ⟨rfl, HB.out⟩
            | true =>
              cases s2 : (o.t == o2.t) with
              | false =>
                go_wp2_with (fail)
                refine (HW.out _ (tt P HT HB)).mono ?_; rintro e v8 ⟨rfl, hb⟩
                replace HB := Lib.hid (HB.out.trans (hb.mono HB.out.size))
                clear hb
                go_wp2_with (fail)
                go_meet
                exact ⟨rfl, HB.out⟩
              | true =>
                have s3 : (o.w == o2.w) = false := by
                  rw [beq_eq_false_iff_ne]
                  exact fun h => HNE.out ⟨by simpa using s1, by simpa using s2, h⟩
                go_wp2_with (fail)
                refine (HW.out _ (tt P HT HB)).mono ?_; rintro e v8 ⟨rfl, hb⟩
                replace HB := Lib.hid (HB.out.trans (hb.mono HB.out.size))
                clear hb
                go_wp2_with (fail)
                go_meet
                exact ⟨rfl, HB.out⟩
        | false =>
          have hne : ¬ (o.c = o2.c ∧ o.t = o2.t ∧ o.w = o2.w) := fun h => by have h9 := (HEQ.out.2 h).1; rw [beq_eq_false_iff_ne] at r1; exact r1 h9
          have HNE := Lib.hid hne
          clear hne
          cases s1 : (o.c == o2.c) with
          | false =>
            go_wp2_with (fail)
            refine (HW.out _ (tt P HT HB)).mono ?_; rintro e v8 ⟨rfl, hb⟩
            replace HB := Lib.hid (HB.out.trans (hb.mono HB.out.size))
            clear hb
            go_wp2_with (fail)
            go_meet
            exact ⟨rfl, HB.out⟩
          | true =>
            cases s2 : (o.t == o2.t) with
            | false =>
              go_wp2_with (fail)
              refine (HW.out _ (tt P HT HB)).mono ?_; rintro e v8 ⟨rfl, hb⟩
              replace HB := Lib.hid (HB.out.trans (hb.mono HB.out.size))
              clear hb
              go_wp2_with (fail)
              go_meet
              exact ⟨rfl, HB.out⟩
            | true =>
              have s3 : (o.w == o2.w) = false := by
                rw [beq_eq_false_iff_ne]
                exact fun h => HNE.out ⟨by simpa using s1, by simpa using s2, h⟩
              go_wp2_with (fail)
              refine (HW.out _ (tt P HT HB)).mono ?_; rintro e v8 ⟨rfl, hb⟩
              replace HB := Lib.hid (HB.out.trans (hb.mono HB.out.size))
              clear hb
              go_wp2_with (fail)
              go_meet
              exact ⟨rfl, HB.out⟩
      case rest =>
        obtain ⟨rfl, hB⟩ := hcut
        go_wp2_with (fail)
        go_ret
        exact ⟨rfl, hB⟩
end Go.Proofs.YthcaeihpdlgcaaaDoor
