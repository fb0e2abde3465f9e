/- What was made is read as it was, what was read asks the same. -/
import Derived.Test.YtdggipgieanpeaaPrF
namespace Go.Proofs.Ytdggipgieanpeaa
open Go.RowKit
theorem ch_wf {a t : Int} {s : ByteArray} {d : Kc} (h : chX a t s = some d) (ht : In64 t) : d.Wf ∧ d.ho.size ≤ 1000 ∧ d.da.size ≤ 1000 := by
  unfold chX at h
  split at h
  · rw [← Option.some.inj h]
    have b0 : big s 0 8 < 18446744073709551616 := by have := big_lt s 0 8; simpa using this
    have b8 : big s 8 8 < 18446744073709551616 := by have := big_lt s 8 8; simpa using this
    have z : In64 0 := by unfold In64; decide
    have sm : ∀ n : Int, 0 ≤ n → n ≤ 100 → In64 n := fun n h0 h1 => by unfold In64; omega
    have dz : (0 : Nat) < 18446744073709551616 := by decide
    have hz : (⟨#[]⟩ : ByteArray).size ≤ 1000 := by decide
    unfold cmO
    split
    · exact ⟨⟨b0, b8, dz, sm 8 (by decide) (by decide), z, z, z, z, by dsimp only; split <;> exact sm _ (by decide) (by decide)⟩, hz, hz⟩
    split
    · exact ⟨⟨dz, b8, dz, sm 8 (by decide) (by decide), z, z, z, z, by dsimp only; split <;> exact sm _ (by decide) (by decide)⟩, hz, hz⟩
    split
    · exact ⟨⟨b0, dz, dz, sm 9 (by decide) (by decide), z, z, z, ht, z⟩, hz, hz⟩
    split
    · exact ⟨⟨b0, dz, dz, sm 10 (by decide) (by decide), z, z, z, ht, z⟩, hz, hz⟩
    split
    · exact ⟨⟨b0, dz, dz, sm 11 (by decide) (by decide), z, z, z, z, z⟩, hz, hz⟩
    · exact ⟨⟨b0, dz, b8, sm 12 (by decide) (by decide), z, z, z, ht, z⟩, hz, hz⟩
  · cases h
theorem ac_in {c : Kc} {a : Int} (h : acO c = some a) : In64 a := by
  have : a = 6 ∨ a = 0 ∨ a = 1 ∨ a = 2 ∨ a = 3 ∨ a = 4 := by
    unfold acO at h
    split at h
    · split at h <;> have e := Option.some.inj h <;> omega
    split at h
    · have e := Option.some.inj h; omega
    split at h
    · have e := Option.some.inj h; omega
    split at h
    · have e := Option.some.inj h; omega
    split at h
    · have e := Option.some.inj h; omega
    · cases h
  unfold In64; omega
theorem li_ac {c : Kc} {a : Int} {s : ByteArray} (h : liX c = some (a, s)) : In64 a ∧ s.size = 24 := by
  have hs := (li_ch h).1
  refine ⟨?_, by rw [hs]; exact lsS_size _ _ _⟩
  unfold liX at h
  split at h
  · cases h
  · rename_i b hb
    split at h
    · cases h
    · split at h
      · rw [← (Prod.mk.inj (Option.some.inj h)).1]; exact ac_in hb
      · cases h
set_option maxRecDepth 100000 in
set_option maxHeartbeats 16000000 in
theorem proutBack_any {T : World → Prop} (P : Code18 T) (c : Kc) (hc : c.Wf) (a t : Int) (ha : In64 a) (htt : In64 t) (s : ByteArray) (w : World) (ht : T w) :
    Calls Try.prog 4 #[kcV c, .agg #[.int .i64 a, .int .i64 t], .string s] w fun e w' => e = .returned (.bool true) ∧ Below w.heap.size w w' := by
  have HT := Lib.hid ht
  have HC := Lib.hid ((Blk.new w 26 (kcC c)).alloc (.cells #[.int .i64 a, .int .i64 t] 22))
  have HN := Lib.hid (show Blk ((w.alloc (.cells (kcC c) 26)).alloc (.cells #[.int .i64 a, .int .i64 t] 22)) (w.heap.size + 1) 22 #[.int .i64 a, .int .i64 t] by
    have := Blk.new (w.alloc (.cells (kcC c) 26)) 22 #[.int .i64 a, .int .i64 t]
    rwa [show (w.alloc (.cells (kcC c) 26)).heap.size = w.heap.size + 1 by simp] at this)
  have HB := Lib.hid (((Below.refl w.heap.size w).alloc (Nat.le_refl _) (.cells (kcC c) 26)).alloc (by simp) (.cells #[.int .i64 a, .int .i64 t] 22))
  have HWK := Lib.hid (fun v tv => prout_wakes P v tv)
  have HLG := Lib.hid (fun v => large_any c v)
  have HMZ : Hid (∀ v, Calls Try.prog 11 #[kcV zK, kcV zK] v fun e w' => e = .returned (.bool true) ∧ Below v.heap.size v w') := Lib.hid (fun v => by
    have h := cmds_any zK zK rfl v
    rwa [sameK_self rfl] at h)
  by_cases hs : s.size ≤ 5000
  · have qs : ¬ (5000 : Int) < (s.size : Int) := by omega
    cases hlg : lgB c with
    | true =>
      rw [hlg] at HLG
      clear hlg hs ht hc ha htt
      go_enter Try.func4, Try.ntmps4
      go_upto_region 1 with (fail)
      change Code.wp _ _ _ _ ((w.alloc (.cells (kcC c) 26)).alloc (.cells #[.int .i64 a, .int .i64 t] 22))
      have hsz : (w.alloc (.cells (kcC c) 26)).heap.size = w.heap.size + 1 := by simp
      generalize (w.alloc (.cells (kcC c) 26)).alloc (.cells #[.int .i64 a, .int .i64 t] 22) = v0 at *
      try rw [hsz]
      clear hsz
      obtain ⟨p, hp⟩ : ∃ p, p = w.heap.size := ⟨_, rfl⟩
      have HP := Lib.hid hp
      rw [← hp] at HN HC ⊢
      clear hp
      have c0 : v0.cell? ⟨p, 0, none⟩ = some (.int .i64 c.op) := HC.out.cell 0
      have c1 : v0.cell? ⟨p, 1, none⟩ = some (.int .i64 c.lu) := HC.out.cell 1
      have c2 : v0.cell? ⟨p, 2, none⟩ = some (.string c.ho) := HC.out.cell 2
      have c3 : v0.cell? ⟨p, 3, none⟩ = some (.int .i64 c.lb) := HC.out.cell 3
      have c4 : v0.cell? ⟨p, 4, none⟩ = some (.int .i64 c.bl) := HC.out.cell 4
      have c5 : v0.cell? ⟨p, 5, none⟩ = some (.string c.da) := HC.out.cell 5
      have c6 : v0.cell? ⟨p, 6, none⟩ = some (.bool c.fu) := HC.out.cell 6
      have c7 : v0.cell? ⟨p, 7, none⟩ = some (.slice c.rA c.rn c.rc) := HC.out.cell 7
      have c8 : v0.cell? ⟨p, 8, none⟩ = some (.int .u64 (c.ke : Int)) := HC.out.cell 8
      have c9 : v0.cell? ⟨p, 9, none⟩ = some (.int .u64 (c.nk : Int)) := HC.out.cell 9
      have c10 : v0.cell? ⟨p, 10, none⟩ = some (.int .u64 (c.ot : Int)) := HC.out.cell 10
      have c11 : v0.cell? ⟨p, 11, none⟩ = some (.int .i64 c.ty) := HC.out.cell 11
      have c12 : v0.cell? ⟨p, 12, none⟩ = some (.bool c.ig) := HC.out.cell 12
      have c13 : v0.cell? ⟨p, 13, none⟩ = some (.int .i64 c.ap) := HC.out.cell 13
      go_wp2_with (fail)
      refine (HLG.out v0).mono ?_; rintro e v1 ⟨rfl, hb⟩
      replace HN := Lib.hid (HN.out.below hb HN.out.lt); replace HC := Lib.hid (HC.out.below hb HC.out.lt); replace HB := Lib.hid (HB.out.trans (hb.mono HB.out.size)); clear hb
      clear c0 c1 c2 c3 c4 c5 c6 c7 c8 c9 c10 c11 c12 c13
      go_wp2_with (fail)
      refine (HWK.out v1 (tt18 P HT HB)).mono ?_; rintro e v9 ⟨rfl, hb⟩
      replace HB := Lib.hid (HB.out.trans (hb.mono HB.out.size)); clear hb
      go_wp2_with (fail)
      go_ret
      exact ⟨rfl, HB.out⟩
    | false =>
      obtain ⟨g1, g2, g3⟩ := lg_no hlg
      rw [hlg] at HLG
      cases hli : liX c with
      | none =>
        have HLI : Hid (∀ v, T v → Calls Try.prog 9 #[kcV c] v fun e w' => e = .returned (.tuple #[.int .i64 0, .string ⟨#[]⟩, .int .i64 180]) ∧ Below v.heap.size v w') := Lib.hid (fun v tv => by
          have h := P.list c v tv hc g1 g2 g3
          rwa [hli] at h)
        clear hli
        cases hch : chX a t s with
        | none =>
          have HCH : Hid (∀ v, T v → Calls Try.prog 7 #[.int .i64 a, .int .i64 t, .string s] v fun e w' => e = .returned (.tuple #[kcV zK, .int .i64 180]) ∧ Below v.heap.size v w') := Lib.hid (fun v tv => by
            have h := P.change a t s v tv ha htt (by omega)
            rwa [hch] at h)
          clear hch
          clear hlg hs ht hc ha htt g1 g2 g3
          as_aux_lemma =>
            go_enter Try.func4, Try.ntmps4
            go_upto_region 1 with (fail)
            change Code.wp _ _ _ _ ((w.alloc (.cells (kcC c) 26)).alloc (.cells #[.int .i64 a, .int .i64 t] 22))
            have hsz : (w.alloc (.cells (kcC c) 26)).heap.size = w.heap.size + 1 := by simp
            generalize (w.alloc (.cells (kcC c) 26)).alloc (.cells #[.int .i64 a, .int .i64 t] 22) = v0 at *
            try rw [hsz]
            clear hsz
            obtain ⟨p, hp⟩ : ∃ p, p = w.heap.size := ⟨_, rfl⟩
            have HP := Lib.hid hp
            rw [← hp] at HN HC ⊢
            clear hp
            have c0 : v0.cell? ⟨p, 0, none⟩ = some (.int .i64 c.op) := HC.out.cell 0
            have c1 : v0.cell? ⟨p, 1, none⟩ = some (.int .i64 c.lu) := HC.out.cell 1
            have c2 : v0.cell? ⟨p, 2, none⟩ = some (.string c.ho) := HC.out.cell 2
            have c3 : v0.cell? ⟨p, 3, none⟩ = some (.int .i64 c.lb) := HC.out.cell 3
            have c4 : v0.cell? ⟨p, 4, none⟩ = some (.int .i64 c.bl) := HC.out.cell 4
            have c5 : v0.cell? ⟨p, 5, none⟩ = some (.string c.da) := HC.out.cell 5
            have c6 : v0.cell? ⟨p, 6, none⟩ = some (.bool c.fu) := HC.out.cell 6
            have c7 : v0.cell? ⟨p, 7, none⟩ = some (.slice c.rA c.rn c.rc) := HC.out.cell 7
            have c8 : v0.cell? ⟨p, 8, none⟩ = some (.int .u64 (c.ke : Int)) := HC.out.cell 8
            have c9 : v0.cell? ⟨p, 9, none⟩ = some (.int .u64 (c.nk : Int)) := HC.out.cell 9
            have c10 : v0.cell? ⟨p, 10, none⟩ = some (.int .u64 (c.ot : Int)) := HC.out.cell 10
            have c11 : v0.cell? ⟨p, 11, none⟩ = some (.int .i64 c.ty) := HC.out.cell 11
            have c12 : v0.cell? ⟨p, 12, none⟩ = some (.bool c.ig) := HC.out.cell 12
            have c13 : v0.cell? ⟨p, 13, none⟩ = some (.int .i64 c.ap) := HC.out.cell 13
            go_wp2_with (fail)
            refine (HLG.out v0).mono ?_; rintro e v1 ⟨rfl, hb⟩
            replace HN := Lib.hid (HN.out.below hb HN.out.lt); replace HC := Lib.hid (HC.out.below hb HC.out.lt); replace HB := Lib.hid (HB.out.trans (hb.mono HB.out.size)); clear hb
            clear c0 c1 c2 c3 c4 c5 c6 c7 c8 c9 c10 c11 c12 c13
            go_upto_region 3 with (fail)
            refine wp_region_lit ?_
            refine wpList_load_row rfl 26 (.tmp 3) rfl p rfl 26 (kcC c) (0, 0) _ HC.out Try.underlying26 rfl kc_info ?_
            simp only [Act.put, List.setIfInBounds_toArray, List.set_cons_zero, List.set_cons_succ]
            go_wp2_with (fail)
            refine (HLI.out v1 (tt18 P HT HB)).mono ?_; rintro e v2 ⟨rfl, hb⟩
            replace HN := Lib.hid (HN.out.below hb HN.out.lt); replace HC := Lib.hid (HC.out.below hb HC.out.lt); replace HB := Lib.hid (HB.out.trans (hb.mono HB.out.size)); clear hb
            have n0 : v2.cell? ⟨p + 1, 0, none⟩ = some (.int .i64 a) := HN.out.cell 0
            have n1 : v2.cell? ⟨p + 1, 1, none⟩ = some (.int .i64 t) := HN.out.cell 1
            go_wp2_with (fail)
            refine (HCH.out v2 (tt18 P HT HB)).mono ?_; rintro e v6 ⟨rfl, hb⟩
            replace HN := Lib.hid (HN.out.below hb HN.out.lt); replace HB := Lib.hid (HB.out.trans (hb.mono HB.out.size)); clear hb
            clear n0 n1
            go_upto_region 9 with (fail)
            change Code.wp _ _ _ _ (v6.alloc (.cells (kcC zK) 26))
            have hb := (Below.refl v6.heap.size v6).alloc (Nat.le_refl _) (.cells (kcC zK) 26)
            have HD := Lib.hid (Blk.new v6 26 (kcC zK))
            replace HN := Lib.hid (HN.out.below hb HN.out.lt); replace HB := Lib.hid (HB.out.trans (hb.mono HB.out.size)); clear hb
            generalize v6.alloc (.cells (kcC zK) 26) = v7 at *
            obtain ⟨g2, hg⟩ : ∃ g, g = v6.heap.size := ⟨_, rfl⟩
            rw [← hg] at HD ⊢
            clear hg
            have d0 : v7.cell? ⟨g2, 0, none⟩ = some (.int .i64 zK.op) := HD.out.cell 0
            have d1 : v7.cell? ⟨g2, 1, none⟩ = some (.int .i64 zK.lu) := HD.out.cell 1
            have d2 : v7.cell? ⟨g2, 2, none⟩ = some (.string zK.ho) := HD.out.cell 2
            have d3 : v7.cell? ⟨g2, 3, none⟩ = some (.int .i64 zK.lb) := HD.out.cell 3
            have d4 : v7.cell? ⟨g2, 4, none⟩ = some (.int .i64 zK.bl) := HD.out.cell 4
            have d5 : v7.cell? ⟨g2, 5, none⟩ = some (.string zK.da) := HD.out.cell 5
            have d6 : v7.cell? ⟨g2, 6, none⟩ = some (.bool zK.fu) := HD.out.cell 6
            have d7 : v7.cell? ⟨g2, 7, none⟩ = some (.slice zK.rA zK.rn zK.rc) := HD.out.cell 7
            have d8 : v7.cell? ⟨g2, 8, none⟩ = some (.int .u64 (zK.ke : Int)) := HD.out.cell 8
            have d9 : v7.cell? ⟨g2, 9, none⟩ = some (.int .u64 (zK.nk : Int)) := HD.out.cell 9
            have d10 : v7.cell? ⟨g2, 10, none⟩ = some (.int .u64 (zK.ot : Int)) := HD.out.cell 10
            have d11 : v7.cell? ⟨g2, 11, none⟩ = some (.int .i64 zK.ty) := HD.out.cell 11
            have d12 : v7.cell? ⟨g2, 12, none⟩ = some (.bool zK.ig) := HD.out.cell 12
            have d13 : v7.cell? ⟨g2, 13, none⟩ = some (.int .i64 zK.ap) := HD.out.cell 13
            go_wp2_with (fail)
            refine (HMZ.out v7).mono ?_; rintro e v8 ⟨rfl, hb⟩
            replace HB := Lib.hid (HB.out.trans (hb.mono HB.out.size)); clear hb
            go_wp2_with (fail)
            refine (HWK.out v8 (tt18 P HT HB)).mono ?_; rintro e v9 ⟨rfl, hb⟩
            replace HB := Lib.hid (HB.out.trans (hb.mono HB.out.size)); clear hb
            go_wp2_with (fail)
            go_ret
            exact ⟨rfl, HB.out⟩
        | some d =>
          have HCH : Hid (∀ v, T v → Calls Try.prog 7 #[.int .i64 a, .int .i64 t, .string s] v fun e w' => e = .returned (.tuple #[kcV d, .int .i64 0]) ∧ Below v.heap.size v w') := Lib.hid (fun v tv => by
            have h := P.change a t s v tv ha htt (by omega)
            rwa [hch] at h)
          obtain ⟨u2, k1, k2, k3, k4⟩ := ch_li hch
          obtain ⟨w1, w2, w3⟩ := ch_wf hch htt
          have HL2 : Hid (∀ v, T v → Calls Try.prog 9 #[kcV d] v fun e w' => e = .returned (.tuple #[.int .i64 a, .string u2, .int .i64 0]) ∧ Below v.heap.size v w') := Lib.hid (fun v tv => by
            have h := P.list d v tv w1 w2 w3 (by omega)
            rwa [k1] at h)
          have HC2 : Hid (∀ v, T v → Calls Try.prog 7 #[.int .i64 a, .int .i64 d.ty, .string u2] v fun e w' => e = .returned (.tuple #[kcV d, .int .i64 0]) ∧ Below v.heap.size v w') := Lib.hid (fun v tv => by
            have h := P.change a d.ty u2 v tv ha w1.ty (by omega)
            rwa [k2] at h)
          have HM2 : Hid (∀ v, Calls Try.prog 11 #[kcV d, kcV d] v fun e w' => e = .returned (.bool true) ∧ Below v.heap.size v w') := Lib.hid (fun v => by
            have h := cmds_any d d k3 v
            rwa [sameK_self k3] at h)
          have x9 : (a == a) = true := by simp
          clear hch k1 k2 k3 k4 w1 w2 w3
          clear hlg hs ht hc ha htt g1 g2 g3
          as_aux_lemma =>
            go_enter Try.func4, Try.ntmps4
            go_upto_region 1 with (fail)
            change Code.wp _ _ _ _ ((w.alloc (.cells (kcC c) 26)).alloc (.cells #[.int .i64 a, .int .i64 t] 22))
            have hsz : (w.alloc (.cells (kcC c) 26)).heap.size = w.heap.size + 1 := by simp
            generalize (w.alloc (.cells (kcC c) 26)).alloc (.cells #[.int .i64 a, .int .i64 t] 22) = v0 at *
            try rw [hsz]
            clear hsz
            obtain ⟨p, hp⟩ : ∃ p, p = w.heap.size := ⟨_, rfl⟩
            have HP := Lib.hid hp
            rw [← hp] at HN HC ⊢
            clear hp
            have c0 : v0.cell? ⟨p, 0, none⟩ = some (.int .i64 c.op) := HC.out.cell 0
            have c1 : v0.cell? ⟨p, 1, none⟩ = some (.int .i64 c.lu) := HC.out.cell 1
            have c2 : v0.cell? ⟨p, 2, none⟩ = some (.string c.ho) := HC.out.cell 2
            have c3 : v0.cell? ⟨p, 3, none⟩ = some (.int .i64 c.lb) := HC.out.cell 3
            have c4 : v0.cell? ⟨p, 4, none⟩ = some (.int .i64 c.bl) := HC.out.cell 4
            have c5 : v0.cell? ⟨p, 5, none⟩ = some (.string c.da) := HC.out.cell 5
            have c6 : v0.cell? ⟨p, 6, none⟩ = some (.bool c.fu) := HC.out.cell 6
            have c7 : v0.cell? ⟨p, 7, none⟩ = some (.slice c.rA c.rn c.rc) := HC.out.cell 7
            have c8 : v0.cell? ⟨p, 8, none⟩ = some (.int .u64 (c.ke : Int)) := HC.out.cell 8
            have c9 : v0.cell? ⟨p, 9, none⟩ = some (.int .u64 (c.nk : Int)) := HC.out.cell 9
            have c10 : v0.cell? ⟨p, 10, none⟩ = some (.int .u64 (c.ot : Int)) := HC.out.cell 10
            have c11 : v0.cell? ⟨p, 11, none⟩ = some (.int .i64 c.ty) := HC.out.cell 11
            have c12 : v0.cell? ⟨p, 12, none⟩ = some (.bool c.ig) := HC.out.cell 12
            have c13 : v0.cell? ⟨p, 13, none⟩ = some (.int .i64 c.ap) := HC.out.cell 13
            go_wp2_with (fail)
            refine (HLG.out v0).mono ?_; rintro e v1 ⟨rfl, hb⟩
            replace HN := Lib.hid (HN.out.below hb HN.out.lt); replace HC := Lib.hid (HC.out.below hb HC.out.lt); replace HB := Lib.hid (HB.out.trans (hb.mono HB.out.size)); clear hb
            clear c0 c1 c2 c3 c4 c5 c6 c7 c8 c9 c10 c11 c12 c13
            go_upto_region 3 with (fail)
            refine wp_region_lit ?_
            refine wpList_load_row rfl 26 (.tmp 3) rfl p rfl 26 (kcC c) (0, 0) _ HC.out Try.underlying26 rfl kc_info ?_
            simp only [Act.put, List.setIfInBounds_toArray, List.set_cons_zero, List.set_cons_succ]
            go_wp2_with (fail)
            refine (HLI.out v1 (tt18 P HT HB)).mono ?_; rintro e v2 ⟨rfl, hb⟩
            replace HN := Lib.hid (HN.out.below hb HN.out.lt); replace HC := Lib.hid (HC.out.below hb HC.out.lt); replace HB := Lib.hid (HB.out.trans (hb.mono HB.out.size)); clear hb
            have n0 : v2.cell? ⟨p + 1, 0, none⟩ = some (.int .i64 a) := HN.out.cell 0
            have n1 : v2.cell? ⟨p + 1, 1, none⟩ = some (.int .i64 t) := HN.out.cell 1
            go_wp2_with (fail)
            refine (HCH.out v2 (tt18 P HT HB)).mono ?_; rintro e v6 ⟨rfl, hb⟩
            replace HN := Lib.hid (HN.out.below hb HN.out.lt); replace HB := Lib.hid (HB.out.trans (hb.mono HB.out.size)); clear hb
            clear n0 n1
            go_upto_region 9 with (fail)
            change Code.wp _ _ _ _ (v6.alloc (.cells (kcC d) 26))
            have hb := (Below.refl v6.heap.size v6).alloc (Nat.le_refl _) (.cells (kcC d) 26)
            have HD := Lib.hid (Blk.new v6 26 (kcC d))
            replace HN := Lib.hid (HN.out.below hb HN.out.lt); replace HB := Lib.hid (HB.out.trans (hb.mono HB.out.size)); clear hb
            generalize v6.alloc (.cells (kcC d) 26) = v7 at *
            obtain ⟨g2, hg⟩ : ∃ g, g = v6.heap.size := ⟨_, rfl⟩
            rw [← hg] at HD ⊢
            clear hg
            go_upto_region 11 with (fail)
            refine wp_region_lit ?_
            refine wpList_load_row rfl 26 (.tmp 12) rfl g2 rfl 26 (kcC d) (0, 0) _ HD.out Try.underlying26 rfl kc_info ?_
            simp only [Act.put, List.setIfInBounds_toArray, List.set_cons_zero, List.set_cons_succ]
            go_wp2_with (fail)
            refine (HL2.out v7 (tt18 P HT HB)).mono ?_; rintro e v8 ⟨rfl, hb⟩
            replace HN := Lib.hid (HN.out.below hb HN.out.lt); replace HD := Lib.hid (HD.out.below hb HD.out.lt); replace HB := Lib.hid (HB.out.trans (hb.mono HB.out.size)); clear hb
            have e11 : v8.cell? ⟨g2, 11, none⟩ = some (.int .i64 d.ty) := HD.out.cell 11
            go_wp2_with (fail)
            refine (HC2.out v8 (tt18 P HT HB)).mono ?_; rintro e v10 ⟨rfl, hb⟩
            replace HN := Lib.hid (HN.out.below hb HN.out.lt); replace HD := Lib.hid (HD.out.below hb HD.out.lt); replace HB := Lib.hid (HB.out.trans (hb.mono HB.out.size)); clear hb
            clear e11
            go_upto_region 13 with (fail)
            change Code.wp _ _ _ _ (v10.alloc (.cells (kcC d) 26))
            have hb := (Below.refl v10.heap.size v10).alloc (Nat.le_refl _) (.cells (kcC d) 26)
            have HK := Lib.hid (Blk.new v10 26 (kcC d))
            replace HN := Lib.hid (HN.out.below hb HN.out.lt); replace HD := Lib.hid (HD.out.below hb HD.out.lt); replace HB := Lib.hid (HB.out.trans (hb.mono HB.out.size)); clear hb
            generalize v10.alloc (.cells (kcC d) 26) = v11 at *
            obtain ⟨g3, hg⟩ : ∃ g, g = v10.heap.size := ⟨_, rfl⟩
            rw [← hg] at HK ⊢
            clear hg
            have c0 : v11.cell? ⟨g2, 0, none⟩ = some (.int .i64 d.op) := HD.out.cell 0
            have c1 : v11.cell? ⟨g2, 1, none⟩ = some (.int .i64 d.lu) := HD.out.cell 1
            have c2 : v11.cell? ⟨g2, 2, none⟩ = some (.string d.ho) := HD.out.cell 2
            have c3 : v11.cell? ⟨g2, 3, none⟩ = some (.int .i64 d.lb) := HD.out.cell 3
            have c4 : v11.cell? ⟨g2, 4, none⟩ = some (.int .i64 d.bl) := HD.out.cell 4
            have c5 : v11.cell? ⟨g2, 5, none⟩ = some (.string d.da) := HD.out.cell 5
            have c6 : v11.cell? ⟨g2, 6, none⟩ = some (.bool d.fu) := HD.out.cell 6
            have c7 : v11.cell? ⟨g2, 7, none⟩ = some (.slice d.rA d.rn d.rc) := HD.out.cell 7
            have c8 : v11.cell? ⟨g2, 8, none⟩ = some (.int .u64 (d.ke : Int)) := HD.out.cell 8
            have c9 : v11.cell? ⟨g2, 9, none⟩ = some (.int .u64 (d.nk : Int)) := HD.out.cell 9
            have c10 : v11.cell? ⟨g2, 10, none⟩ = some (.int .u64 (d.ot : Int)) := HD.out.cell 10
            have c11 : v11.cell? ⟨g2, 11, none⟩ = some (.int .i64 d.ty) := HD.out.cell 11
            have c12 : v11.cell? ⟨g2, 12, none⟩ = some (.bool d.ig) := HD.out.cell 12
            have c13 : v11.cell? ⟨g2, 13, none⟩ = some (.int .i64 d.ap) := HD.out.cell 13
            have d0 : v11.cell? ⟨g3, 0, none⟩ = some (.int .i64 d.op) := HK.out.cell 0
            have d1 : v11.cell? ⟨g3, 1, none⟩ = some (.int .i64 d.lu) := HK.out.cell 1
            have d2 : v11.cell? ⟨g3, 2, none⟩ = some (.string d.ho) := HK.out.cell 2
            have d3 : v11.cell? ⟨g3, 3, none⟩ = some (.int .i64 d.lb) := HK.out.cell 3
            have d4 : v11.cell? ⟨g3, 4, none⟩ = some (.int .i64 d.bl) := HK.out.cell 4
            have d5 : v11.cell? ⟨g3, 5, none⟩ = some (.string d.da) := HK.out.cell 5
            have d6 : v11.cell? ⟨g3, 6, none⟩ = some (.bool d.fu) := HK.out.cell 6
            have d7 : v11.cell? ⟨g3, 7, none⟩ = some (.slice d.rA d.rn d.rc) := HK.out.cell 7
            have d8 : v11.cell? ⟨g3, 8, none⟩ = some (.int .u64 (d.ke : Int)) := HK.out.cell 8
            have d9 : v11.cell? ⟨g3, 9, none⟩ = some (.int .u64 (d.nk : Int)) := HK.out.cell 9
            have d10 : v11.cell? ⟨g3, 10, none⟩ = some (.int .u64 (d.ot : Int)) := HK.out.cell 10
            have d11 : v11.cell? ⟨g3, 11, none⟩ = some (.int .i64 d.ty) := HK.out.cell 11
            have d12 : v11.cell? ⟨g3, 12, none⟩ = some (.bool d.ig) := HK.out.cell 12
            have d13 : v11.cell? ⟨g3, 13, none⟩ = some (.int .i64 d.ap) := HK.out.cell 13
            have n0 : v11.cell? ⟨p + 1, 0, none⟩ = some (.int .i64 a) := HN.out.cell 0
            go_wp2_with (fail)
            refine (HM2.out v11).mono ?_; rintro e v12 ⟨rfl, hb⟩
            replace HB := Lib.hid (HB.out.trans (hb.mono HB.out.size)); clear hb
            go_wp2_with (fail)
            refine (HWK.out v12 (tt18 P HT HB)).mono ?_; rintro e v9 ⟨rfl, hb⟩
            replace HB := Lib.hid (HB.out.trans (hb.mono HB.out.size)); clear hb
            go_wp2_with (fail)
            go_ret
            exact ⟨rfl, HB.out⟩
      | some pr =>
        obtain ⟨a0, u⟩ := pr
        have HLI : Hid (∀ v, T v → Calls Try.prog 9 #[kcV c] v fun e w' => e = .returned (.tuple #[.int .i64 a0, .string u, .int .i64 0]) ∧ Below v.heap.size v w') := Lib.hid (fun v tv => by
          have h := P.list c v tv hc g1 g2 g3
          rwa [hli] at h)
        obtain ⟨j0, d1, j1, j2⟩ := li_ch hli
        clear j0
        obtain ⟨j3, j4⟩ := li_ac hli
        have HC1 : Hid (∀ v, T v → Calls Try.prog 7 #[.int .i64 a0, .int .i64 c.ty, .string u] v fun e w' => e = .returned (.tuple #[kcV d1, .int .i64 0]) ∧ Below v.heap.size v w') := Lib.hid (fun v tv => by
          have h := P.change a0 c.ty u v tv j3 hc.ty (by omega)
          rwa [j1] at h)
        have HM1 : Hid (∀ v, Calls Try.prog 11 #[kcV c, kcV d1] v fun e w' => e = .returned (.bool true) ∧ Below v.heap.size v w') := Lib.hid (fun v => by
          have h := cmds_any c d1 (ch_rn j1) v
          rwa [j2] at h)
        clear hli j1 j2 j3 j4
        cases hch : chX a t s with
        | none =>
          have HCH : Hid (∀ v, T v → Calls Try.prog 7 #[.int .i64 a, .int .i64 t, .string s] v fun e w' => e = .returned (.tuple #[kcV zK, .int .i64 180]) ∧ Below v.heap.size v w') := Lib.hid (fun v tv => by
            have h := P.change a t s v tv ha htt (by omega)
            rwa [hch] at h)
          clear hch
          clear hlg hs ht hc ha htt g1 g2 g3
          as_aux_lemma =>
            go_enter Try.func4, Try.ntmps4
            go_upto_region 1 with (fail)
            change Code.wp _ _ _ _ ((w.alloc (.cells (kcC c) 26)).alloc (.cells #[.int .i64 a, .int .i64 t] 22))
            have hsz : (w.alloc (.cells (kcC c) 26)).heap.size = w.heap.size + 1 := by simp
            generalize (w.alloc (.cells (kcC c) 26)).alloc (.cells #[.int .i64 a, .int .i64 t] 22) = v0 at *
            try rw [hsz]
            clear hsz
            obtain ⟨p, hp⟩ : ∃ p, p = w.heap.size := ⟨_, rfl⟩
            have HP := Lib.hid hp
            rw [← hp] at HN HC ⊢
            clear hp
            have c0 : v0.cell? ⟨p, 0, none⟩ = some (.int .i64 c.op) := HC.out.cell 0
            have c1 : v0.cell? ⟨p, 1, none⟩ = some (.int .i64 c.lu) := HC.out.cell 1
            have c2 : v0.cell? ⟨p, 2, none⟩ = some (.string c.ho) := HC.out.cell 2
            have c3 : v0.cell? ⟨p, 3, none⟩ = some (.int .i64 c.lb) := HC.out.cell 3
            have c4 : v0.cell? ⟨p, 4, none⟩ = some (.int .i64 c.bl) := HC.out.cell 4
            have c5 : v0.cell? ⟨p, 5, none⟩ = some (.string c.da) := HC.out.cell 5
            have c6 : v0.cell? ⟨p, 6, none⟩ = some (.bool c.fu) := HC.out.cell 6
            have c7 : v0.cell? ⟨p, 7, none⟩ = some (.slice c.rA c.rn c.rc) := HC.out.cell 7
            have c8 : v0.cell? ⟨p, 8, none⟩ = some (.int .u64 (c.ke : Int)) := HC.out.cell 8
            have c9 : v0.cell? ⟨p, 9, none⟩ = some (.int .u64 (c.nk : Int)) := HC.out.cell 9
            have c10 : v0.cell? ⟨p, 10, none⟩ = some (.int .u64 (c.ot : Int)) := HC.out.cell 10
            have c11 : v0.cell? ⟨p, 11, none⟩ = some (.int .i64 c.ty) := HC.out.cell 11
            have c12 : v0.cell? ⟨p, 12, none⟩ = some (.bool c.ig) := HC.out.cell 12
            have c13 : v0.cell? ⟨p, 13, none⟩ = some (.int .i64 c.ap) := HC.out.cell 13
            go_wp2_with (fail)
            refine (HLG.out v0).mono ?_; rintro e v1 ⟨rfl, hb⟩
            replace HN := Lib.hid (HN.out.below hb HN.out.lt); replace HC := Lib.hid (HC.out.below hb HC.out.lt); replace HB := Lib.hid (HB.out.trans (hb.mono HB.out.size)); clear hb
            clear c0 c1 c2 c3 c4 c5 c6 c7 c8 c9 c10 c11 c12 c13
            go_upto_region 3 with (fail)
            refine wp_region_lit ?_
            refine wpList_load_row rfl 26 (.tmp 3) rfl p rfl 26 (kcC c) (0, 0) _ HC.out Try.underlying26 rfl kc_info ?_
            simp only [Act.put, List.setIfInBounds_toArray, List.set_cons_zero, List.set_cons_succ]
            go_wp2_with (fail)
            refine (HLI.out v1 (tt18 P HT HB)).mono ?_; rintro e v2 ⟨rfl, hb⟩
            replace HN := Lib.hid (HN.out.below hb HN.out.lt); replace HC := Lib.hid (HC.out.below hb HC.out.lt); replace HB := Lib.hid (HB.out.trans (hb.mono HB.out.size)); clear hb
            have e11 : v2.cell? ⟨p, 11, none⟩ = some (.int .i64 c.ty) := HC.out.cell 11
            go_wp2_with (fail)
            refine (HC1.out v2 (tt18 P HT HB)).mono ?_; rintro e v3 ⟨rfl, hb⟩
            replace HN := Lib.hid (HN.out.below hb HN.out.lt); replace HC := Lib.hid (HC.out.below hb HC.out.lt); replace HB := Lib.hid (HB.out.trans (hb.mono HB.out.size)); clear hb
            clear e11
            go_upto_region 6 with (fail)
            change Code.wp _ _ _ _ (v3.alloc (.cells (kcC d1) 26))
            have hb := (Below.refl v3.heap.size v3).alloc (Nat.le_refl _) (.cells (kcC d1) 26)
            have HD1 := Lib.hid (Blk.new v3 26 (kcC d1))
            replace HN := Lib.hid (HN.out.below hb HN.out.lt); replace HC := Lib.hid (HC.out.below hb HC.out.lt); replace HB := Lib.hid (HB.out.trans (hb.mono HB.out.size)); clear hb
            generalize v3.alloc (.cells (kcC d1) 26) = v4 at *
            obtain ⟨g1, hg⟩ : ∃ g, g = v3.heap.size := ⟨_, rfl⟩
            rw [← hg] at HD1 ⊢
            clear hg
            have c0 : v4.cell? ⟨p, 0, none⟩ = some (.int .i64 c.op) := HC.out.cell 0
            have c1 : v4.cell? ⟨p, 1, none⟩ = some (.int .i64 c.lu) := HC.out.cell 1
            have c2 : v4.cell? ⟨p, 2, none⟩ = some (.string c.ho) := HC.out.cell 2
            have c3 : v4.cell? ⟨p, 3, none⟩ = some (.int .i64 c.lb) := HC.out.cell 3
            have c4 : v4.cell? ⟨p, 4, none⟩ = some (.int .i64 c.bl) := HC.out.cell 4
            have c5 : v4.cell? ⟨p, 5, none⟩ = some (.string c.da) := HC.out.cell 5
            have c6 : v4.cell? ⟨p, 6, none⟩ = some (.bool c.fu) := HC.out.cell 6
            have c7 : v4.cell? ⟨p, 7, none⟩ = some (.slice c.rA c.rn c.rc) := HC.out.cell 7
            have c8 : v4.cell? ⟨p, 8, none⟩ = some (.int .u64 (c.ke : Int)) := HC.out.cell 8
            have c9 : v4.cell? ⟨p, 9, none⟩ = some (.int .u64 (c.nk : Int)) := HC.out.cell 9
            have c10 : v4.cell? ⟨p, 10, none⟩ = some (.int .u64 (c.ot : Int)) := HC.out.cell 10
            have c11 : v4.cell? ⟨p, 11, none⟩ = some (.int .i64 c.ty) := HC.out.cell 11
            have c12 : v4.cell? ⟨p, 12, none⟩ = some (.bool c.ig) := HC.out.cell 12
            have c13 : v4.cell? ⟨p, 13, none⟩ = some (.int .i64 c.ap) := HC.out.cell 13
            have f0 : v4.cell? ⟨g1, 0, none⟩ = some (.int .i64 d1.op) := HD1.out.cell 0
            have f1 : v4.cell? ⟨g1, 1, none⟩ = some (.int .i64 d1.lu) := HD1.out.cell 1
            have f2 : v4.cell? ⟨g1, 2, none⟩ = some (.string d1.ho) := HD1.out.cell 2
            have f3 : v4.cell? ⟨g1, 3, none⟩ = some (.int .i64 d1.lb) := HD1.out.cell 3
            have f4 : v4.cell? ⟨g1, 4, none⟩ = some (.int .i64 d1.bl) := HD1.out.cell 4
            have f5 : v4.cell? ⟨g1, 5, none⟩ = some (.string d1.da) := HD1.out.cell 5
            have f6 : v4.cell? ⟨g1, 6, none⟩ = some (.bool d1.fu) := HD1.out.cell 6
            have f7 : v4.cell? ⟨g1, 7, none⟩ = some (.slice d1.rA d1.rn d1.rc) := HD1.out.cell 7
            have f8 : v4.cell? ⟨g1, 8, none⟩ = some (.int .u64 (d1.ke : Int)) := HD1.out.cell 8
            have f9 : v4.cell? ⟨g1, 9, none⟩ = some (.int .u64 (d1.nk : Int)) := HD1.out.cell 9
            have f10 : v4.cell? ⟨g1, 10, none⟩ = some (.int .u64 (d1.ot : Int)) := HD1.out.cell 10
            have f11 : v4.cell? ⟨g1, 11, none⟩ = some (.int .i64 d1.ty) := HD1.out.cell 11
            have f12 : v4.cell? ⟨g1, 12, none⟩ = some (.bool d1.ig) := HD1.out.cell 12
            have f13 : v4.cell? ⟨g1, 13, none⟩ = some (.int .i64 d1.ap) := HD1.out.cell 13
            go_wp2_with (fail)
            refine (HM1.out v4).mono ?_; rintro e v5 ⟨rfl, hb⟩
            replace HN := Lib.hid (HN.out.below hb HN.out.lt); replace HB := Lib.hid (HB.out.trans (hb.mono HB.out.size)); clear hb
            clear c0 c1 c2 c3 c4 c5 c6 c7 c8 c9 c10 c11 c12 c13
            clear f0 f1 f2 f3 f4 f5 f6 f7 f8 f9 f10 f11 f12 f13
            clear HC HD1
            have n0 : v5.cell? ⟨p + 1, 0, none⟩ = some (.int .i64 a) := HN.out.cell 0
            have n1 : v5.cell? ⟨p + 1, 1, none⟩ = some (.int .i64 t) := HN.out.cell 1
            go_wp2_with (fail)
            refine (HCH.out v5 (tt18 P HT HB)).mono ?_; rintro e v6 ⟨rfl, hb⟩
            replace HN := Lib.hid (HN.out.below hb HN.out.lt); replace HB := Lib.hid (HB.out.trans (hb.mono HB.out.size)); clear hb
            clear n0 n1
            go_upto_region 9 with (fail)
            change Code.wp _ _ _ _ (v6.alloc (.cells (kcC zK) 26))
            have hb := (Below.refl v6.heap.size v6).alloc (Nat.le_refl _) (.cells (kcC zK) 26)
            have HD := Lib.hid (Blk.new v6 26 (kcC zK))
            replace HN := Lib.hid (HN.out.below hb HN.out.lt); replace HB := Lib.hid (HB.out.trans (hb.mono HB.out.size)); clear hb
            generalize v6.alloc (.cells (kcC zK) 26) = v7 at *
            obtain ⟨g2, hg⟩ : ∃ g, g = v6.heap.size := ⟨_, rfl⟩
            rw [← hg] at HD ⊢
            clear hg
            have d0 : v7.cell? ⟨g2, 0, none⟩ = some (.int .i64 zK.op) := HD.out.cell 0
            have d1 : v7.cell? ⟨g2, 1, none⟩ = some (.int .i64 zK.lu) := HD.out.cell 1
            have d2 : v7.cell? ⟨g2, 2, none⟩ = some (.string zK.ho) := HD.out.cell 2
            have d3 : v7.cell? ⟨g2, 3, none⟩ = some (.int .i64 zK.lb) := HD.out.cell 3
            have d4 : v7.cell? ⟨g2, 4, none⟩ = some (.int .i64 zK.bl) := HD.out.cell 4
            have d5 : v7.cell? ⟨g2, 5, none⟩ = some (.string zK.da) := HD.out.cell 5
            have d6 : v7.cell? ⟨g2, 6, none⟩ = some (.bool zK.fu) := HD.out.cell 6
            have d7 : v7.cell? ⟨g2, 7, none⟩ = some (.slice zK.rA zK.rn zK.rc) := HD.out.cell 7
            have d8 : v7.cell? ⟨g2, 8, none⟩ = some (.int .u64 (zK.ke : Int)) := HD.out.cell 8
            have d9 : v7.cell? ⟨g2, 9, none⟩ = some (.int .u64 (zK.nk : Int)) := HD.out.cell 9
            have d10 : v7.cell? ⟨g2, 10, none⟩ = some (.int .u64 (zK.ot : Int)) := HD.out.cell 10
            have d11 : v7.cell? ⟨g2, 11, none⟩ = some (.int .i64 zK.ty) := HD.out.cell 11
            have d12 : v7.cell? ⟨g2, 12, none⟩ = some (.bool zK.ig) := HD.out.cell 12
            have d13 : v7.cell? ⟨g2, 13, none⟩ = some (.int .i64 zK.ap) := HD.out.cell 13
            go_wp2_with (fail)
            refine (HMZ.out v7).mono ?_; rintro e v8 ⟨rfl, hb⟩
            replace HB := Lib.hid (HB.out.trans (hb.mono HB.out.size)); clear hb
            go_wp2_with (fail)
            refine (HWK.out v8 (tt18 P HT HB)).mono ?_; rintro e v9 ⟨rfl, hb⟩
            replace HB := Lib.hid (HB.out.trans (hb.mono HB.out.size)); clear hb
            go_wp2_with (fail)
            go_ret
            exact ⟨rfl, HB.out⟩
        | some d =>
          have HCH : Hid (∀ v, T v → Calls Try.prog 7 #[.int .i64 a, .int .i64 t, .string s] v fun e w' => e = .returned (.tuple #[kcV d, .int .i64 0]) ∧ Below v.heap.size v w') := Lib.hid (fun v tv => by
            have h := P.change a t s v tv ha htt (by omega)
            rwa [hch] at h)
          obtain ⟨u2, k1, k2, k3, k4⟩ := ch_li hch
          obtain ⟨w1, w2, w3⟩ := ch_wf hch htt
          have HL2 : Hid (∀ v, T v → Calls Try.prog 9 #[kcV d] v fun e w' => e = .returned (.tuple #[.int .i64 a, .string u2, .int .i64 0]) ∧ Below v.heap.size v w') := Lib.hid (fun v tv => by
            have h := P.list d v tv w1 w2 w3 (by omega)
            rwa [k1] at h)
          have HC2 : Hid (∀ v, T v → Calls Try.prog 7 #[.int .i64 a, .int .i64 d.ty, .string u2] v fun e w' => e = .returned (.tuple #[kcV d, .int .i64 0]) ∧ Below v.heap.size v w') := Lib.hid (fun v tv => by
            have h := P.change a d.ty u2 v tv ha w1.ty (by omega)
            rwa [k2] at h)
          have HM2 : Hid (∀ v, Calls Try.prog 11 #[kcV d, kcV d] v fun e w' => e = .returned (.bool true) ∧ Below v.heap.size v w') := Lib.hid (fun v => by
            have h := cmds_any d d k3 v
            rwa [sameK_self k3] at h)
          have x9 : (a == a) = true := by simp
          clear hch k1 k2 k3 k4 w1 w2 w3
          clear hlg hs ht hc ha htt g1 g2 g3
          as_aux_lemma =>
            go_enter Try.func4, Try.ntmps4
            go_upto_region 1 with (fail)
            change Code.wp _ _ _ _ ((w.alloc (.cells (kcC c) 26)).alloc (.cells #[.int .i64 a, .int .i64 t] 22))
            have hsz : (w.alloc (.cells (kcC c) 26)).heap.size = w.heap.size + 1 := by simp
            generalize (w.alloc (.cells (kcC c) 26)).alloc (.cells #[.int .i64 a, .int .i64 t] 22) = v0 at *
            try rw [hsz]
            clear hsz
            obtain ⟨p, hp⟩ : ∃ p, p = w.heap.size := ⟨_, rfl⟩
            have HP := Lib.hid hp
            rw [← hp] at HN HC ⊢
            clear hp
            have c0 : v0.cell? ⟨p, 0, none⟩ = some (.int .i64 c.op) := HC.out.cell 0
            have c1 : v0.cell? ⟨p, 1, none⟩ = some (.int .i64 c.lu) := HC.out.cell 1
            have c2 : v0.cell? ⟨p, 2, none⟩ = some (.string c.ho) := HC.out.cell 2
            have c3 : v0.cell? ⟨p, 3, none⟩ = some (.int .i64 c.lb) := HC.out.cell 3
            have c4 : v0.cell? ⟨p, 4, none⟩ = some (.int .i64 c.bl) := HC.out.cell 4
            have c5 : v0.cell? ⟨p, 5, none⟩ = some (.string c.da) := HC.out.cell 5
            have c6 : v0.cell? ⟨p, 6, none⟩ = some (.bool c.fu) := HC.out.cell 6
            have c7 : v0.cell? ⟨p, 7, none⟩ = some (.slice c.rA c.rn c.rc) := HC.out.cell 7
            have c8 : v0.cell? ⟨p, 8, none⟩ = some (.int .u64 (c.ke : Int)) := HC.out.cell 8
            have c9 : v0.cell? ⟨p, 9, none⟩ = some (.int .u64 (c.nk : Int)) := HC.out.cell 9
            have c10 : v0.cell? ⟨p, 10, none⟩ = some (.int .u64 (c.ot : Int)) := HC.out.cell 10
            have c11 : v0.cell? ⟨p, 11, none⟩ = some (.int .i64 c.ty) := HC.out.cell 11
            have c12 : v0.cell? ⟨p, 12, none⟩ = some (.bool c.ig) := HC.out.cell 12
            have c13 : v0.cell? ⟨p, 13, none⟩ = some (.int .i64 c.ap) := HC.out.cell 13
            go_wp2_with (fail)
            refine (HLG.out v0).mono ?_; rintro e v1 ⟨rfl, hb⟩
            replace HN := Lib.hid (HN.out.below hb HN.out.lt); replace HC := Lib.hid (HC.out.below hb HC.out.lt); replace HB := Lib.hid (HB.out.trans (hb.mono HB.out.size)); clear hb
            clear c0 c1 c2 c3 c4 c5 c6 c7 c8 c9 c10 c11 c12 c13
            go_upto_region 3 with (fail)
            refine wp_region_lit ?_
            refine wpList_load_row rfl 26 (.tmp 3) rfl p rfl 26 (kcC c) (0, 0) _ HC.out Try.underlying26 rfl kc_info ?_
            simp only [Act.put, List.setIfInBounds_toArray, List.set_cons_zero, List.set_cons_succ]
            go_wp2_with (fail)
            refine (HLI.out v1 (tt18 P HT HB)).mono ?_; rintro e v2 ⟨rfl, hb⟩
            replace HN := Lib.hid (HN.out.below hb HN.out.lt); replace HC := Lib.hid (HC.out.below hb HC.out.lt); replace HB := Lib.hid (HB.out.trans (hb.mono HB.out.size)); clear hb
            have e11 : v2.cell? ⟨p, 11, none⟩ = some (.int .i64 c.ty) := HC.out.cell 11
            go_wp2_with (fail)
            refine (HC1.out v2 (tt18 P HT HB)).mono ?_; rintro e v3 ⟨rfl, hb⟩
            replace HN := Lib.hid (HN.out.below hb HN.out.lt); replace HC := Lib.hid (HC.out.below hb HC.out.lt); replace HB := Lib.hid (HB.out.trans (hb.mono HB.out.size)); clear hb
            clear e11
            go_upto_region 6 with (fail)
            change Code.wp _ _ _ _ (v3.alloc (.cells (kcC d1) 26))
            have hb := (Below.refl v3.heap.size v3).alloc (Nat.le_refl _) (.cells (kcC d1) 26)
            have HD1 := Lib.hid (Blk.new v3 26 (kcC d1))
            replace HN := Lib.hid (HN.out.below hb HN.out.lt); replace HC := Lib.hid (HC.out.below hb HC.out.lt); replace HB := Lib.hid (HB.out.trans (hb.mono HB.out.size)); clear hb
            generalize v3.alloc (.cells (kcC d1) 26) = v4 at *
            obtain ⟨g1, hg⟩ : ∃ g, g = v3.heap.size := ⟨_, rfl⟩
            rw [← hg] at HD1 ⊢
            clear hg
            have c0 : v4.cell? ⟨p, 0, none⟩ = some (.int .i64 c.op) := HC.out.cell 0
            have c1 : v4.cell? ⟨p, 1, none⟩ = some (.int .i64 c.lu) := HC.out.cell 1
            have c2 : v4.cell? ⟨p, 2, none⟩ = some (.string c.ho) := HC.out.cell 2
            have c3 : v4.cell? ⟨p, 3, none⟩ = some (.int .i64 c.lb) := HC.out.cell 3
            have c4 : v4.cell? ⟨p, 4, none⟩ = some (.int .i64 c.bl) := HC.out.cell 4
            have c5 : v4.cell? ⟨p, 5, none⟩ = some (.string c.da) := HC.out.cell 5
            have c6 : v4.cell? ⟨p, 6, none⟩ = some (.bool c.fu) := HC.out.cell 6
            have c7 : v4.cell? ⟨p, 7, none⟩ = some (.slice c.rA c.rn c.rc) := HC.out.cell 7
            have c8 : v4.cell? ⟨p, 8, none⟩ = some (.int .u64 (c.ke : Int)) := HC.out.cell 8
            have c9 : v4.cell? ⟨p, 9, none⟩ = some (.int .u64 (c.nk : Int)) := HC.out.cell 9
            have c10 : v4.cell? ⟨p, 10, none⟩ = some (.int .u64 (c.ot : Int)) := HC.out.cell 10
            have c11 : v4.cell? ⟨p, 11, none⟩ = some (.int .i64 c.ty) := HC.out.cell 11
            have c12 : v4.cell? ⟨p, 12, none⟩ = some (.bool c.ig) := HC.out.cell 12
            have c13 : v4.cell? ⟨p, 13, none⟩ = some (.int .i64 c.ap) := HC.out.cell 13
            have f0 : v4.cell? ⟨g1, 0, none⟩ = some (.int .i64 d1.op) := HD1.out.cell 0
            have f1 : v4.cell? ⟨g1, 1, none⟩ = some (.int .i64 d1.lu) := HD1.out.cell 1
            have f2 : v4.cell? ⟨g1, 2, none⟩ = some (.string d1.ho) := HD1.out.cell 2
            have f3 : v4.cell? ⟨g1, 3, none⟩ = some (.int .i64 d1.lb) := HD1.out.cell 3
            have f4 : v4.cell? ⟨g1, 4, none⟩ = some (.int .i64 d1.bl) := HD1.out.cell 4
            have f5 : v4.cell? ⟨g1, 5, none⟩ = some (.string d1.da) := HD1.out.cell 5
            have f6 : v4.cell? ⟨g1, 6, none⟩ = some (.bool d1.fu) := HD1.out.cell 6
            have f7 : v4.cell? ⟨g1, 7, none⟩ = some (.slice d1.rA d1.rn d1.rc) := HD1.out.cell 7
            have f8 : v4.cell? ⟨g1, 8, none⟩ = some (.int .u64 (d1.ke : Int)) := HD1.out.cell 8
            have f9 : v4.cell? ⟨g1, 9, none⟩ = some (.int .u64 (d1.nk : Int)) := HD1.out.cell 9
            have f10 : v4.cell? ⟨g1, 10, none⟩ = some (.int .u64 (d1.ot : Int)) := HD1.out.cell 10
            have f11 : v4.cell? ⟨g1, 11, none⟩ = some (.int .i64 d1.ty) := HD1.out.cell 11
            have f12 : v4.cell? ⟨g1, 12, none⟩ = some (.bool d1.ig) := HD1.out.cell 12
            have f13 : v4.cell? ⟨g1, 13, none⟩ = some (.int .i64 d1.ap) := HD1.out.cell 13
            go_wp2_with (fail)
            refine (HM1.out v4).mono ?_; rintro e v5 ⟨rfl, hb⟩
            replace HN := Lib.hid (HN.out.below hb HN.out.lt); replace HB := Lib.hid (HB.out.trans (hb.mono HB.out.size)); clear hb
            clear c0 c1 c2 c3 c4 c5 c6 c7 c8 c9 c10 c11 c12 c13
            clear f0 f1 f2 f3 f4 f5 f6 f7 f8 f9 f10 f11 f12 f13
            clear HC HD1
            have n0 : v5.cell? ⟨p + 1, 0, none⟩ = some (.int .i64 a) := HN.out.cell 0
            have n1 : v5.cell? ⟨p + 1, 1, none⟩ = some (.int .i64 t) := HN.out.cell 1
            go_wp2_with (fail)
            refine (HCH.out v5 (tt18 P HT HB)).mono ?_; rintro e v6 ⟨rfl, hb⟩
            replace HN := Lib.hid (HN.out.below hb HN.out.lt); replace HB := Lib.hid (HB.out.trans (hb.mono HB.out.size)); clear hb
            clear n0 n1
            go_upto_region 9 with (fail)
            change Code.wp _ _ _ _ (v6.alloc (.cells (kcC d) 26))
            have hb := (Below.refl v6.heap.size v6).alloc (Nat.le_refl _) (.cells (kcC d) 26)
            have HD := Lib.hid (Blk.new v6 26 (kcC d))
            replace HN := Lib.hid (HN.out.below hb HN.out.lt); replace HB := Lib.hid (HB.out.trans (hb.mono HB.out.size)); clear hb
            generalize v6.alloc (.cells (kcC d) 26) = v7 at *
            obtain ⟨g2, hg⟩ : ∃ g, g = v6.heap.size := ⟨_, rfl⟩
            rw [← hg] at HD ⊢
            clear hg
            go_upto_region 11 with (fail)
            refine wp_region_lit ?_
            refine wpList_load_row rfl 26 (.tmp 12) rfl g2 rfl 26 (kcC d) (0, 0) _ HD.out Try.underlying26 rfl kc_info ?_
            simp only [Act.put, List.setIfInBounds_toArray, List.set_cons_zero, List.set_cons_succ]
            go_wp2_with (fail)
            refine (HL2.out v7 (tt18 P HT HB)).mono ?_; rintro e v8 ⟨rfl, hb⟩
            replace HN := Lib.hid (HN.out.below hb HN.out.lt); replace HD := Lib.hid (HD.out.below hb HD.out.lt); replace HB := Lib.hid (HB.out.trans (hb.mono HB.out.size)); clear hb
            have e11 : v8.cell? ⟨g2, 11, none⟩ = some (.int .i64 d.ty) := HD.out.cell 11
            go_wp2_with (fail)
            refine (HC2.out v8 (tt18 P HT HB)).mono ?_; rintro e v10 ⟨rfl, hb⟩
            replace HN := Lib.hid (HN.out.below hb HN.out.lt); replace HD := Lib.hid (HD.out.below hb HD.out.lt); replace HB := Lib.hid (HB.out.trans (hb.mono HB.out.size)); clear hb
            clear e11
            go_upto_region 13 with (fail)
            change Code.wp _ _ _ _ (v10.alloc (.cells (kcC d) 26))
            have hb := (Below.refl v10.heap.size v10).alloc (Nat.le_refl _) (.cells (kcC d) 26)
            have HK := Lib.hid (Blk.new v10 26 (kcC d))
            replace HN := Lib.hid (HN.out.below hb HN.out.lt); replace HD := Lib.hid (HD.out.below hb HD.out.lt); replace HB := Lib.hid (HB.out.trans (hb.mono HB.out.size)); clear hb
            generalize v10.alloc (.cells (kcC d) 26) = v11 at *
            obtain ⟨g3, hg⟩ : ∃ g, g = v10.heap.size := ⟨_, rfl⟩
            rw [← hg] at HK ⊢
            clear hg
            have c0 : v11.cell? ⟨g2, 0, none⟩ = some (.int .i64 d.op) := HD.out.cell 0
            have c1 : v11.cell? ⟨g2, 1, none⟩ = some (.int .i64 d.lu) := HD.out.cell 1
            have c2 : v11.cell? ⟨g2, 2, none⟩ = some (.string d.ho) := HD.out.cell 2
            have c3 : v11.cell? ⟨g2, 3, none⟩ = some (.int .i64 d.lb) := HD.out.cell 3
            have c4 : v11.cell? ⟨g2, 4, none⟩ = some (.int .i64 d.bl) := HD.out.cell 4
            have c5 : v11.cell? ⟨g2, 5, none⟩ = some (.string d.da) := HD.out.cell 5
            have c6 : v11.cell? ⟨g2, 6, none⟩ = some (.bool d.fu) := HD.out.cell 6
            have c7 : v11.cell? ⟨g2, 7, none⟩ = some (.slice d.rA d.rn d.rc) := HD.out.cell 7
            have c8 : v11.cell? ⟨g2, 8, none⟩ = some (.int .u64 (d.ke : Int)) := HD.out.cell 8
            have c9 : v11.cell? ⟨g2, 9, none⟩ = some (.int .u64 (d.nk : Int)) := HD.out.cell 9
            have c10 : v11.cell? ⟨g2, 10, none⟩ = some (.int .u64 (d.ot : Int)) := HD.out.cell 10
            have c11 : v11.cell? ⟨g2, 11, none⟩ = some (.int .i64 d.ty) := HD.out.cell 11
            have c12 : v11.cell? ⟨g2, 12, none⟩ = some (.bool d.ig) := HD.out.cell 12
            have c13 : v11.cell? ⟨g2, 13, none⟩ = some (.int .i64 d.ap) := HD.out.cell 13
            have d0 : v11.cell? ⟨g3, 0, none⟩ = some (.int .i64 d.op) := HK.out.cell 0
            have d1 : v11.cell? ⟨g3, 1, none⟩ = some (.int .i64 d.lu) := HK.out.cell 1
            have d2 : v11.cell? ⟨g3, 2, none⟩ = some (.string d.ho) := HK.out.cell 2
            have d3 : v11.cell? ⟨g3, 3, none⟩ = some (.int .i64 d.lb) := HK.out.cell 3
            have d4 : v11.cell? ⟨g3, 4, none⟩ = some (.int .i64 d.bl) := HK.out.cell 4
            have d5 : v11.cell? ⟨g3, 5, none⟩ = some (.string d.da) := HK.out.cell 5
            have d6 : v11.cell? ⟨g3, 6, none⟩ = some (.bool d.fu) := HK.out.cell 6
            have d7 : v11.cell? ⟨g3, 7, none⟩ = some (.slice d.rA d.rn d.rc) := HK.out.cell 7
            have d8 : v11.cell? ⟨g3, 8, none⟩ = some (.int .u64 (d.ke : Int)) := HK.out.cell 8
            have d9 : v11.cell? ⟨g3, 9, none⟩ = some (.int .u64 (d.nk : Int)) := HK.out.cell 9
            have d10 : v11.cell? ⟨g3, 10, none⟩ = some (.int .u64 (d.ot : Int)) := HK.out.cell 10
            have d11 : v11.cell? ⟨g3, 11, none⟩ = some (.int .i64 d.ty) := HK.out.cell 11
            have d12 : v11.cell? ⟨g3, 12, none⟩ = some (.bool d.ig) := HK.out.cell 12
            have d13 : v11.cell? ⟨g3, 13, none⟩ = some (.int .i64 d.ap) := HK.out.cell 13
            have n0 : v11.cell? ⟨p + 1, 0, none⟩ = some (.int .i64 a) := HN.out.cell 0
            go_wp2_with (fail)
            refine (HM2.out v11).mono ?_; rintro e v12 ⟨rfl, hb⟩
            replace HB := Lib.hid (HB.out.trans (hb.mono HB.out.size)); clear hb
            go_wp2_with (fail)
            refine (HWK.out v12 (tt18 P HT HB)).mono ?_; rintro e v9 ⟨rfl, hb⟩
            replace HB := Lib.hid (HB.out.trans (hb.mono HB.out.size)); clear hb
            go_wp2_with (fail)
            go_ret
            exact ⟨rfl, HB.out⟩
  · have qs : (5000 : Int) < (s.size : Int) := by omega
    clear hs ht hc ha htt
    go_enter Try.func4, Try.ntmps4
    go_upto_region 1 with (fail)
    change Code.wp _ _ _ _ ((w.alloc (.cells (kcC c) 26)).alloc (.cells #[.int .i64 a, .int .i64 t] 22))
    have hsz : (w.alloc (.cells (kcC c) 26)).heap.size = w.heap.size + 1 := by simp
    generalize (w.alloc (.cells (kcC c) 26)).alloc (.cells #[.int .i64 a, .int .i64 t] 22) = v0 at *
    try rw [hsz]
    clear hsz
    obtain ⟨p, hp⟩ : ∃ p, p = w.heap.size := ⟨_, rfl⟩
    have HP := Lib.hid hp
    rw [← hp] at HN HC ⊢
    clear hp
    go_wp2_with (fail)
    refine (HWK.out v0 (tt18 P HT HB)).mono ?_; rintro e v9 ⟨rfl, hb⟩
    replace HB := Lib.hid (HB.out.trans (hb.mono HB.out.size)); clear hb
    go_wp2_with (fail)
    go_ret
    exact ⟨rfl, HB.out⟩
end Go.Proofs.Ytdggipgieanpeaa
