/- The command of any list, and the list of any command. -/
import Derived.Test.YtdggipgieanpeaaPrE
import Derived.Test.YtdggipgieanpeaaPrD
namespace Go.Proofs.Ytdggipgieanpeaa
open Go.RowKit
theorem ch_getD_rn (o : Option Kc) (h : ∀ d, o = some d → d.rn = 0) : (o.getD zK).rn = 0 := by
  cases o with
  | none => rfl
  | some d => exact h d rfl
theorem lg_no {c : Kc} (h : lgB c = false) : c.ho.size ≤ 1000 ∧ c.da.size ≤ 1000 ∧ c.rn ≤ 100 := by
  unfold lgB at h
  simp only [Bool.or_eq_false_iff, decide_eq_false_iff_not] at h
  omega
set_option maxRecDepth 100000 in
set_option maxHeartbeats 16000000 in
theorem proutChanges_any {T : World → Prop} (P : Code18 T) (a t : Int) (ha : In64 a) (htt : In64 t) (s : ByteArray) (c : Kc) (hc : c.Wf) (w : World) (ht : T w) :
    Calls Try.prog 3 #[.agg #[.int .i64 a, .int .i64 t], .string s, kcV c] w fun e w' => e = .returned (.bool true) ∧ Below w.heap.size w w' := by
  have HT := Lib.hid ht
  have HN := Lib.hid ((Blk.new w 22 #[.int .i64 a, .int .i64 t]).alloc (.cells (kcC c) 26))
  have HC := Lib.hid (show Blk ((w.alloc (.cells #[.int .i64 a, .int .i64 t] 22)).alloc (.cells (kcC c) 26)) (w.heap.size + 1) 26 (kcC c) by
    have := Blk.new (w.alloc (.cells #[.int .i64 a, .int .i64 t] 22)) 26 (kcC c)
    rwa [show (w.alloc (.cells #[.int .i64 a, .int .i64 t] 22)).heap.size = w.heap.size + 1 by simp] at this)
  have HB := Lib.hid (((Below.refl w.heap.size w).alloc (Nat.le_refl _) (.cells #[.int .i64 a, .int .i64 t] 22)).alloc (by simp) (.cells (kcC c) 26))
  have HWK := Lib.hid (fun v tv => prout_wakes P v tv)
  have HLG := Lib.hid (fun v => large_any c v)
  by_cases hs : s.size ≤ 5000
  · have qs : ¬ (5000 : Int) < (s.size : Int) := by omega
    cases hlg : lgB c with
    | true =>
      rw [hlg] at HLG
      clear hlg hs ht hc ha htt
      go_enter Try.func3, Try.ntmps3
      go_upto_region 1 with (fail)
      change Code.wp _ _ _ _ ((w.alloc (.cells #[.int .i64 a, .int .i64 t] 22)).alloc (.cells (kcC c) 26))
      have hsz : (w.alloc (.cells #[.int .i64 a, .int .i64 t] 22)).heap.size = w.heap.size + 1 := by simp
      generalize (w.alloc (.cells #[.int .i64 a, .int .i64 t] 22)).alloc (.cells (kcC c) 26) = v0 at *
      try rw [hsz]
      clear hsz
      obtain ⟨p, hp⟩ : ∃ p, p = w.heap.size := ⟨_, rfl⟩
      have HP := Lib.hid hp
      rw [← hp] at HN HC ⊢
      clear hp
      have c0 : v0.cell? ⟨p + 1, 0, none⟩ = some (.int .i64 c.op) := HC.out.cell 0
      have c1 : v0.cell? ⟨p + 1, 1, none⟩ = some (.int .i64 c.lu) := HC.out.cell 1
      have c2 : v0.cell? ⟨p + 1, 2, none⟩ = some (.string c.ho) := HC.out.cell 2
      have c3 : v0.cell? ⟨p + 1, 3, none⟩ = some (.int .i64 c.lb) := HC.out.cell 3
      have c4 : v0.cell? ⟨p + 1, 4, none⟩ = some (.int .i64 c.bl) := HC.out.cell 4
      have c5 : v0.cell? ⟨p + 1, 5, none⟩ = some (.string c.da) := HC.out.cell 5
      have c6 : v0.cell? ⟨p + 1, 6, none⟩ = some (.bool c.fu) := HC.out.cell 6
      have c7 : v0.cell? ⟨p + 1, 7, none⟩ = some (.slice c.rA c.rn c.rc) := HC.out.cell 7
      have c8 : v0.cell? ⟨p + 1, 8, none⟩ = some (.int .u64 (c.ke : Int)) := HC.out.cell 8
      have c9 : v0.cell? ⟨p + 1, 9, none⟩ = some (.int .u64 (c.nk : Int)) := HC.out.cell 9
      have c10 : v0.cell? ⟨p + 1, 10, none⟩ = some (.int .u64 (c.ot : Int)) := HC.out.cell 10
      have c11 : v0.cell? ⟨p + 1, 11, none⟩ = some (.int .i64 c.ty) := HC.out.cell 11
      have c12 : v0.cell? ⟨p + 1, 12, none⟩ = some (.bool c.ig) := HC.out.cell 12
      have c13 : v0.cell? ⟨p + 1, 13, none⟩ = some (.int .i64 c.ap) := HC.out.cell 13
      go_wp2_with (fail)
      refine (HLG.out v0).mono ?_; rintro e v1 ⟨rfl, hb⟩
      replace HN := Lib.hid (HN.out.below hb HN.out.lt); replace HC := Lib.hid (HC.out.below hb HC.out.lt); replace HB := Lib.hid (HB.out.trans (hb.mono HB.out.size)); clear hb
      clear c0 c1 c2 c3 c4 c5 c6 c7 c8 c9 c10 c11 c12 c13
      go_wp2_with (fail)
      refine (HWK.out v1 (tt18 P HT HB)).mono ?_; rintro e v9 ⟨rfl, hb⟩
      replace HB := Lib.hid (HB.out.trans (hb.mono HB.out.size)); clear hb
      go_wp2_with (fail)
      go_ret
      exact ⟨rfl, HB.out⟩
    | false =>
      obtain ⟨g1, g2, g3⟩ := lg_no hlg
      rw [hlg] at HLG
      have HCH := Lib.hid (fun v tv => P.change a t s v tv ha htt (by omega))
      have HRC := Lib.hid (fun v => refChange_any a t s v)
      have HLI := Lib.hid (fun v tv => P.list c v tv hc g1 g2 g3)
      have HRL := Lib.hid (fun v => refList_any c v hc.ke hc.nk hc.ot)
      have hrn : ((chX a t s).getD zK).rn = 0 := ch_getD_rn _ (fun d h => ch_rn h)
      have HCM : Hid (∀ v, Calls Try.prog 11 #[kcV ((chX a t s).getD zK), kcV ((chX a t s).getD zK)] v fun e w' => e = .returned (.bool true) ∧ Below v.heap.size v w') := Lib.hid (fun v => by
        have h := cmds_any ((chX a t s).getD zK) ((chX a t s).getD zK) hrn v
        rwa [sameK_self hrn] at h)
      unfold chV at HCH HRC
      unfold plV at HLI
      unfold rlV at HRL
      generalize (if (chX a t s).isSome = true then (0 : Int) else 180) = E1 at *
      generalize (if (liX c).isSome = true then (0 : Int) else 180) = E2 at *
      generalize ((liX c).getD (0, ⟨#[]⟩)).1 = act at *
      generalize ((liX c).getD (0, ⟨#[]⟩)).2 = txt at *
      generalize (chX a t s).getD zK = d at *
      have x1 : (E1 == E1) = true := by simp
      have x2 : (act == act) = true := by simp
      have x3 : (txt.toList == txt.toList) = true := by simp
      have x4 : (E2 == E2) = true := by simp
      clear hlg hs ht hc ha htt hrn g1 g2 g3
      go_enter Try.func3, Try.ntmps3
      go_upto_region 1 with (fail)
      change Code.wp _ _ _ _ ((w.alloc (.cells #[.int .i64 a, .int .i64 t] 22)).alloc (.cells (kcC c) 26))
      have hsz : (w.alloc (.cells #[.int .i64 a, .int .i64 t] 22)).heap.size = w.heap.size + 1 := by simp
      generalize (w.alloc (.cells #[.int .i64 a, .int .i64 t] 22)).alloc (.cells (kcC c) 26) = v0 at *
      try rw [hsz]
      clear hsz
      obtain ⟨p, hp⟩ : ∃ p, p = w.heap.size := ⟨_, rfl⟩
      have HP := Lib.hid hp
      rw [← hp] at HN HC ⊢
      clear hp
      have c0 : v0.cell? ⟨p + 1, 0, none⟩ = some (.int .i64 c.op) := HC.out.cell 0
      have c1 : v0.cell? ⟨p + 1, 1, none⟩ = some (.int .i64 c.lu) := HC.out.cell 1
      have c2 : v0.cell? ⟨p + 1, 2, none⟩ = some (.string c.ho) := HC.out.cell 2
      have c3 : v0.cell? ⟨p + 1, 3, none⟩ = some (.int .i64 c.lb) := HC.out.cell 3
      have c4 : v0.cell? ⟨p + 1, 4, none⟩ = some (.int .i64 c.bl) := HC.out.cell 4
      have c5 : v0.cell? ⟨p + 1, 5, none⟩ = some (.string c.da) := HC.out.cell 5
      have c6 : v0.cell? ⟨p + 1, 6, none⟩ = some (.bool c.fu) := HC.out.cell 6
      have c7 : v0.cell? ⟨p + 1, 7, none⟩ = some (.slice c.rA c.rn c.rc) := HC.out.cell 7
      have c8 : v0.cell? ⟨p + 1, 8, none⟩ = some (.int .u64 (c.ke : Int)) := HC.out.cell 8
      have c9 : v0.cell? ⟨p + 1, 9, none⟩ = some (.int .u64 (c.nk : Int)) := HC.out.cell 9
      have c10 : v0.cell? ⟨p + 1, 10, none⟩ = some (.int .u64 (c.ot : Int)) := HC.out.cell 10
      have c11 : v0.cell? ⟨p + 1, 11, none⟩ = some (.int .i64 c.ty) := HC.out.cell 11
      have c12 : v0.cell? ⟨p + 1, 12, none⟩ = some (.bool c.ig) := HC.out.cell 12
      have c13 : v0.cell? ⟨p + 1, 13, none⟩ = some (.int .i64 c.ap) := HC.out.cell 13
      go_wp2_with (fail)
      refine (HLG.out v0).mono ?_; rintro e v1 ⟨rfl, hb⟩
      replace HN := Lib.hid (HN.out.below hb HN.out.lt); replace HC := Lib.hid (HC.out.below hb HC.out.lt); replace HB := Lib.hid (HB.out.trans (hb.mono HB.out.size)); clear hb
      clear c0 c1 c2 c3 c4 c5 c6 c7 c8 c9 c10 c11 c12 c13
      have n0 : v1.cell? ⟨p, 0, none⟩ = some (.int .i64 a) := HN.out.cell 0
      have n1 : v1.cell? ⟨p, 1, none⟩ = some (.int .i64 t) := HN.out.cell 1
      go_wp2_with (fail)
      refine (HCH.out v1 (tt18 P HT HB)).mono ?_; rintro e v2 ⟨rfl, hb⟩
      replace HN := Lib.hid (HN.out.below hb HN.out.lt); replace HC := Lib.hid (HC.out.below hb HC.out.lt); replace HB := Lib.hid (HB.out.trans (hb.mono HB.out.size)); clear hb
      clear n0 n1
      go_upto_region 4 with (fail)
      change Code.wp _ _ _ _ (v2.alloc (.cells (kcC d) 26))
      have hb := (Below.refl v2.heap.size v2).alloc (Nat.le_refl _) (.cells (kcC d) 26)
      have HD := Lib.hid (Blk.new v2 26 (kcC d))
      replace HN := Lib.hid (HN.out.below hb HN.out.lt); replace HC := Lib.hid (HC.out.below hb HC.out.lt); replace HB := Lib.hid (HB.out.trans (hb.mono HB.out.size)); clear hb
      generalize v2.alloc (.cells (kcC d) 26) = v3 at *
      obtain ⟨gd, hg⟩ : ∃ g, g = v2.heap.size := ⟨_, rfl⟩
      rw [← hg] at HD ⊢
      clear hg
      have n0 : v3.cell? ⟨p, 0, none⟩ = some (.int .i64 a) := HN.out.cell 0
      have n1 : v3.cell? ⟨p, 1, none⟩ = some (.int .i64 t) := HN.out.cell 1
      go_wp2_with (fail)
      refine (HRC.out v3).mono ?_; rintro e v4 ⟨rfl, hb⟩
      replace HN := Lib.hid (HN.out.below hb HN.out.lt); replace HC := Lib.hid (HC.out.below hb HC.out.lt); replace HD := Lib.hid (HD.out.below hb HD.out.lt); replace HB := Lib.hid (HB.out.trans (hb.mono HB.out.size)); clear hb
      clear n0 n1
      go_upto_region 5 with (fail)
      change Code.wp _ _ _ _ (v4.alloc (.cells (kcC d) 26))
      have hb := (Below.refl v4.heap.size v4).alloc (Nat.le_refl _) (.cells (kcC d) 26)
      have HE := Lib.hid (Blk.new v4 26 (kcC d))
      replace HN := Lib.hid (HN.out.below hb HN.out.lt); replace HC := Lib.hid (HC.out.below hb HC.out.lt); replace HD := Lib.hid (HD.out.below hb HD.out.lt); replace HB := Lib.hid (HB.out.trans (hb.mono HB.out.size)); clear hb
      generalize v4.alloc (.cells (kcC d) 26) = v5 at *
      obtain ⟨ge, hg⟩ : ∃ g, g = v4.heap.size := ⟨_, rfl⟩
      rw [← hg] at HE ⊢
      clear hg
      refine wp_region_lit ?_
      refine wpList_load_row rfl 26 (.tmp 5) rfl (p + 1) rfl 26 (kcC c) (0, 0) _ HC.out Try.underlying26 rfl kc_info ?_
      simp only [Act.put, List.setIfInBounds_toArray, List.set_cons_zero, List.set_cons_succ]
      go_wp2_with (fail)
      refine (HLI.out v5 (tt18 P HT HB)).mono ?_; rintro e v6 ⟨rfl, hb⟩
      replace HC := Lib.hid (HC.out.below hb HC.out.lt); replace HD := Lib.hid (HD.out.below hb HD.out.lt); replace HE := Lib.hid (HE.out.below hb HE.out.lt); replace HB := Lib.hid (HB.out.trans (hb.mono HB.out.size)); clear hb
      go_upto_region 6 with (fail)
      refine wp_region_lit ?_
      refine wpList_load_row rfl 26 (.tmp 5) rfl (p + 1) rfl 26 (kcC c) (0, 0) _ HC.out Try.underlying26 rfl kc_info ?_
      simp only [Act.put, List.setIfInBounds_toArray, List.set_cons_zero, List.set_cons_succ]
      go_wp2_with (fail)
      refine (HRL.out v6).mono ?_; rintro e v7 ⟨rfl, hb⟩
      replace HD := Lib.hid (HD.out.below hb HD.out.lt); replace HE := Lib.hid (HE.out.below hb HE.out.lt); replace HB := Lib.hid (HB.out.trans (hb.mono HB.out.size)); clear hb
      go_upto_region 7 with (fail)
      change Code.wp _ _ _ _ (v7.alloc (.cells #[.int .i64 act, .string txt] 37))
      have hb := (Below.refl v7.heap.size v7).alloc (Nat.le_refl _) (.cells #[.int .i64 act, .string txt] 37)
      have HL := Lib.hid (Blk.new v7 37 #[.int .i64 act, .string txt])
      replace HD := Lib.hid (HD.out.below hb HD.out.lt); replace HE := Lib.hid (HE.out.below hb HE.out.lt); replace HB := Lib.hid (HB.out.trans (hb.mono HB.out.size)); clear hb
      generalize v7.alloc (.cells #[.int .i64 act, .string txt] 37) = v8 at *
      obtain ⟨gl, hg⟩ : ∃ g, g = v7.heap.size := ⟨_, rfl⟩
      rw [← hg] at HL ⊢
      clear hg
      refine wp_region_lit ?_
      refine wpList_load_row rfl 26 (.tmp 7) rfl gd rfl 26 (kcC d) (0, 0) _ HD.out Try.underlying26 rfl kc_info ?_
      refine wpList_load_row rfl 26 (.tmp 9) rfl ge rfl 26 (kcC d) (0, 0) _ HE.out Try.underlying26 rfl kc_info ?_
      simp only [Act.put, List.setIfInBounds_toArray, List.set_cons_zero, List.set_cons_succ]
      go_wp2_with (fail)
      refine (HCM.out v8).mono ?_; rintro e v10 ⟨rfl, hb⟩
      replace HL := Lib.hid (HL.out.below hb HL.out.lt); replace HB := Lib.hid (HB.out.trans (hb.mono HB.out.size)); clear hb
      have l0 : v10.cell? ⟨gl, 0, none⟩ = some (.int .i64 act) := HL.out.cell 0
      have l1 : v10.cell? ⟨gl, 1, none⟩ = some (.string txt) := HL.out.cell 1
      go_wp2_with (fail)
      refine (HWK.out v10 (tt18 P HT HB)).mono ?_; rintro e v9 ⟨rfl, hb⟩
      replace HB := Lib.hid (HB.out.trans (hb.mono HB.out.size)); clear hb
      go_wp2_with (fail)
      go_ret
      exact ⟨rfl, HB.out⟩
  · have qs : (5000 : Int) < (s.size : Int) := by omega
    clear hs ht hc ha htt
    go_enter Try.func3, Try.ntmps3
    go_upto_region 1 with (fail)
    change Code.wp _ _ _ _ ((w.alloc (.cells #[.int .i64 a, .int .i64 t] 22)).alloc (.cells (kcC c) 26))
    have hsz : (w.alloc (.cells #[.int .i64 a, .int .i64 t] 22)).heap.size = w.heap.size + 1 := by simp
    generalize (w.alloc (.cells #[.int .i64 a, .int .i64 t] 22)).alloc (.cells (kcC c) 26) = v0 at *
    try rw [hsz]
    clear hsz
    obtain ⟨p, hp⟩ : ∃ p, p = w.heap.size := ⟨_, rfl⟩
    have HP := Lib.hid hp
    rw [← hp] at HN HC ⊢
    clear hp
    go_wp2_with (fail)
    refine (HWK.out v0 (tt18 P HT HB)).mono ?_; rintro e v9 ⟨rfl, hb⟩
    replace HB := Lib.hid (HB.out.trans (hb.mono HB.out.size)); clear hb
    go_wp2_with (fail)
    go_ret
    exact ⟨rfl, HB.out⟩
end Go.Proofs.Ytdggipgieanpeaa
