/- What was written is read as it was, what was read is written as it was: the statement. -/
import Derived.Test.YthcaeihpdlgcaaaDoorSnH
namespace Go.Proofs.YthcaeihpdlgcaaaDoor
open Go.RowKit
set_option maxRecDepth 100000 in
set_option maxHeartbeats 16000000 in
theorem senseBack_any {T : World → Prop} (P : Code16 T) (x : Sn) (hx : Bn x) (s : ByteArray) (w : World) (ht : T w) : Calls Tryd.prog 5 #[snV x, .string s] w fun e w' => e = .returned (.bool true) ∧ Below w.heap.size w w' := by
  have HT := Lib.hid ht
  clear ht
  have HW := Lib.hid (fun v (hv : T v) => sense_wakes P v hv)
  by_cases h5 : 5000 < s.size
  · have q : (5000 : Int) < (s.size : Int) := by omega
    clear h5
    go_enter Tryd.func5, Tryd.ntmps5
    go_upto_region 1 with (fail)
    change Code.wp _ _ _ _ (w.alloc (.cells (snC x) 23))
    have HB := Lib.hid ((Below.refl w.heap.size w).alloc (Nat.le_refl _) (.cells (snC x) 23))
    generalize w.alloc (.cells (snC x) 23) = v0 at *
    go_wp2_with (fail)
    refine (HW.out v0 (tt P HT HB)).mono ?_; rintro e v1 ⟨rfl, hb⟩
    replace HB := Lib.hid (HB.out.trans (hb.mono HB.out.size)); clear hb
    go_wp2_with (fail)
    go_ret
    exact ⟨rfl, HB.out⟩
  · have q : ¬ (5000 : Int) < (s.size : Int) := by omega
    have HPS := Lib.hid (fun v hv => P.parse s v hv (by omega))
    have HB8 := Lib.hid (fun v hv => P.bytes x v hv hx)
    clear h5 hx
    cases hbx : bytX x with
    | none =>
      have HB7 : Hid (∀ v, T v → Calls Tryd.prog 8 #[snV x] v fun e w' => e = .returned (.tuple #[.string ⟨#[]⟩, .int .i64 160]) ∧ Below v.heap.size v w') := Lib.hid (fun v hv => by have h := HB8.out v hv; rw [hbx] at h; exact h)
      clear hbx HB8
      go_enter Tryd.func5, Tryd.ntmps5
      go_upto_region 1 with (fail)
      change Code.wp _ _ _ _ (w.alloc (.cells (snC x) 23))
      have HB := Lib.hid ((Below.refl w.heap.size w).alloc (Nat.le_refl _) (.cells (snC x) 23))
      have HX := Lib.hid (Blk.new w 23 (snC x))
      obtain ⟨p, hp⟩ : ∃ p, p = w.heap.size := ⟨_, rfl⟩
      have HP := Lib.hid hp
      rw [← hp] at HX ⊢
      clear hp
      generalize w.alloc (.cells (snC x) 23) = v0 at *
      go_upto_region 3 with (fail)
      refine wp_region_lit ?_
      refine wpList_load_row rfl 23 (.tmp 2) rfl p rfl 23 (snC x) (0, 0) _ HX.out Tryd.underlying23 rfl sn_info ?_
      go_wp2_with (fail)
      refine (HB7.out v0 (tt P HT HB)).mono ?_; rintro e v1 ⟨rfl, hb⟩
      replace HB := Lib.hid (HB.out.trans (hb.mono HB.out.size)); replace HX := Lib.hid (HX.out.below hb HX.out.lt); clear hb
      cases hps : parX s with
      | none =>
        have HPN : Hid (∀ v, T v → Calls Tryd.prog 10 #[.string s] v fun e w' => e = .returned (.tuple #[snV zN, .int .i64 160]) ∧ Below v.heap.size v w') := Lib.hid (fun v hv => by have h := HPS.out v hv; rw [hps] at h; exact h)
        clear hps HPS
        go_wp2_with (fail)
        refine (HPN.out v1 (tt P HT HB)).mono ?_; rintro e u1 ⟨rfl, hb⟩
        replace HB := Lib.hid (HB.out.trans (hb.mono HB.out.size)); clear hb
        go_upto_region 9 with (fail)
        change Code.wp _ _ _ _ (u1.alloc (.cells (snC zN) 23))
        have hb := (Below.refl u1.heap.size u1).alloc (Nat.le_refl _) (.cells (snC zN) 23)
        replace HB := Lib.hid (HB.out.trans (hb.mono HB.out.size)); 
        have HY := Lib.hid (Blk.new u1 23 (snC zN))
        obtain ⟨g, hg⟩ : ∃ g, g = u1.heap.size := ⟨_, rfl⟩
        rw [← hg] at HY ⊢
        clear hb hg
        generalize u1.alloc (.cells (snC zN) 23) = u2 at *
        clear HY
        go_wp2_with (fail)
        refine (HW.out u2 (tt P HT HB)).mono ?_; rintro e u3 ⟨rfl, hb⟩
        replace HB := Lib.hid (HB.out.trans (hb.mono HB.out.size)); clear hb
        go_wp2_with (fail)
        go_ret
        exact ⟨rfl, HB.out⟩
      | some y =>
        have HPN : Hid (∀ v, T v → Calls Tryd.prog 10 #[.string s] v fun e w' => e = .returned (.tuple #[snV y, .int .i64 0]) ∧ Below v.heap.size v w') := Lib.hid (fun v hv => by have h := HPS.out v hv; rw [hps] at h; exact h)
        obtain ⟨hm, hbs, _⟩ := par_some hps
        have HBS : Hid (∀ v, T v → Calls Tryd.prog 8 #[snV y] v fun e w' => e = .returned (.tuple #[.string s, .int .i64 0]) ∧ Below v.heap.size v w') := Lib.hid (fun v hv => by have h := P.bytes y v hv (may_bnd hm); unfold bytX at h; rw [if_pos hm, hbs] at h; exact h)
        have q1 : (s.toList == s.toList) = true := by simp
        clear hps HPS hm hbs
        go_wp2_with (fail)
        refine (HPN.out v1 (tt P HT HB)).mono ?_; rintro e u1 ⟨rfl, hb⟩
        replace HB := Lib.hid (HB.out.trans (hb.mono HB.out.size)); clear hb
        go_upto_region 9 with (fail)
        change Code.wp _ _ _ _ (u1.alloc (.cells (snC y) 23))
        have hb := (Below.refl u1.heap.size u1).alloc (Nat.le_refl _) (.cells (snC y) 23)
        replace HB := Lib.hid (HB.out.trans (hb.mono HB.out.size)); 
        have HY := Lib.hid (Blk.new u1 23 (snC y))
        obtain ⟨g, hg⟩ : ∃ g, g = u1.heap.size := ⟨_, rfl⟩
        rw [← hg] at HY ⊢
        clear hb hg
        generalize u1.alloc (.cells (snC y) 23) = u2 at *
        go_upto_region 11 with (fail)
        refine wp_region_lit ?_
        refine wpList_load_row rfl 23 (.tmp 9) rfl g rfl 23 (snC y) (0, 0) _ HY.out Tryd.underlying23 rfl sn_info ?_
        go_wp2_with (fail)
        refine (HBS.out u2 (tt P HT HB)).mono ?_; rintro e u3 ⟨rfl, hb⟩
        replace HB := Lib.hid (HB.out.trans (hb.mono HB.out.size)); clear hb
        go_wp2_with (fail)
        refine (HW.out u3 (tt P HT HB)).mono ?_; rintro e u4 ⟨rfl, hb⟩
        replace HB := Lib.hid (HB.out.trans (hb.mono HB.out.size)); clear hb
        go_wp2_with (fail)
        go_ret
        exact ⟨rfl, HB.out⟩
    | some t =>
      have HB7 : Hid (∀ v, T v → Calls Tryd.prog 8 #[snV x] v fun e w' => e = .returned (.tuple #[.string t, .int .i64 0]) ∧ Below v.heap.size v w') := Lib.hid (fun v hv => by have h := HB8.out v hv; rw [hbx] at h; exact h)
      have hmx : mayX x = true ∧ t = bytS x := by
        unfold bytX at hbx
        split at hbx
        · rename_i h; exact ⟨h, (Option.some.inj hbx).symm⟩
        · cases hbx
      have HPT : Hid (∀ v, T v → Calls Tryd.prog 10 #[.string t] v fun e w' => e = .returned (.tuple #[snV x, .int .i64 0]) ∧ Below v.heap.size v w') := Lib.hid (fun v hv => by have h := P.parse t v hv (by rw [hmx.2, bytS_size]; decide); rw [hmx.2, par_S hmx.1, ← hmx.2] at h; exact h)
      have HSE := Lib.hid (fun v => senses_any x x v)
      rw [decide_eq_true (rfl : x = x)] at HSE
      clear hbx HB8 hmx
      go_enter Tryd.func5, Tryd.ntmps5
      go_upto_region 1 with (fail)
      change Code.wp _ _ _ _ (w.alloc (.cells (snC x) 23))
      have HB := Lib.hid ((Below.refl w.heap.size w).alloc (Nat.le_refl _) (.cells (snC x) 23))
      have HX := Lib.hid (Blk.new w 23 (snC x))
      obtain ⟨p, hp⟩ : ∃ p, p = w.heap.size := ⟨_, rfl⟩
      have HP := Lib.hid hp
      rw [← hp] at HX ⊢
      clear hp
      generalize w.alloc (.cells (snC x) 23) = v0 at *
      go_upto_region 3 with (fail)
      refine wp_region_lit ?_
      refine wpList_load_row rfl 23 (.tmp 2) rfl p rfl 23 (snC x) (0, 0) _ HX.out Tryd.underlying23 rfl sn_info ?_
      go_wp2_with (fail)
      refine (HB7.out v0 (tt P HT HB)).mono ?_; rintro e v1 ⟨rfl, hb⟩
      replace HB := Lib.hid (HB.out.trans (hb.mono HB.out.size)); replace HX := Lib.hid (HX.out.below hb HX.out.lt); clear hb
      go_wp2_with (fail)
      refine (HPT.out v1 (tt P HT HB)).mono ?_; rintro e v2 ⟨rfl, hb⟩
      replace HB := Lib.hid (HB.out.trans (hb.mono HB.out.size)); replace HX := Lib.hid (HX.out.below hb HX.out.lt); clear hb
      go_upto_region 6 with (fail)
      change Code.wp _ _ _ _ (v2.alloc (.cells (snC x) 23))
      have hb := (Below.refl v2.heap.size v2).alloc (Nat.le_refl _) (.cells (snC x) 23)
      replace HB := Lib.hid (HB.out.trans (hb.mono HB.out.size)); replace HX := Lib.hid (HX.out.below hb HX.out.lt); 
      have HZ := Lib.hid (Blk.new v2 23 (snC x))
      obtain ⟨r, hg⟩ : ∃ g, g = v2.heap.size := ⟨_, rfl⟩
      rw [← hg] at HZ ⊢
      clear hb hg
      generalize v2.alloc (.cells (snC x) 23) = v3 at *
      have c0 : v3.cell? ⟨p, 0, none⟩ = some (.int .i64 x.k) := HX.out.cell 0
      have c1 : v3.cell? ⟨p, 1, none⟩ = some (.int .i64 x.a) := HX.out.cell 1
      have c2 : v3.cell? ⟨p, 2, none⟩ = some (.int .i64 x.q) := HX.out.cell 2
      have c3 : v3.cell? ⟨p, 3, none⟩ = some (.int .i64 x.t) := HX.out.cell 3
      have d0 : v3.cell? ⟨r, 0, none⟩ = some (.int .i64 x.k) := HZ.out.cell 0
      have d1 : v3.cell? ⟨r, 1, none⟩ = some (.int .i64 x.a) := HZ.out.cell 1
      have d2 : v3.cell? ⟨r, 2, none⟩ = some (.int .i64 x.q) := HZ.out.cell 2
      have d3 : v3.cell? ⟨r, 3, none⟩ = some (.int .i64 x.t) := HZ.out.cell 3
      go_wp2_with (fail)
      refine (HSE.out v3).mono ?_; rintro e v4 ⟨rfl, hb⟩
      replace HB := Lib.hid (HB.out.trans (hb.mono HB.out.size)); clear hb
      clear c0 c1 c2 c3 d0 d1 d2 d3 HX HZ
      cases hps : parX s with
      | none =>
        have HPN : Hid (∀ v, T v → Calls Tryd.prog 10 #[.string s] v fun e w' => e = .returned (.tuple #[snV zN, .int .i64 160]) ∧ Below v.heap.size v w') := Lib.hid (fun v hv => by have h := HPS.out v hv; rw [hps] at h; exact h)
        clear hps HPS
        go_wp2_with (fail)
        refine (HPN.out v4 (tt P HT HB)).mono ?_; rintro e u1 ⟨rfl, hb⟩
        replace HB := Lib.hid (HB.out.trans (hb.mono HB.out.size)); clear hb
        go_upto_region 9 with (fail)
        change Code.wp _ _ _ _ (u1.alloc (.cells (snC zN) 23))
        have hb := (Below.refl u1.heap.size u1).alloc (Nat.le_refl _) (.cells (snC zN) 23)
        replace HB := Lib.hid (HB.out.trans (hb.mono HB.out.size)); 
        have HY := Lib.hid (Blk.new u1 23 (snC zN))
        obtain ⟨g, hg⟩ : ∃ g, g = u1.heap.size := ⟨_, rfl⟩
        rw [← hg] at HY ⊢
        clear hb hg
        generalize u1.alloc (.cells (snC zN) 23) = u2 at *
        clear HY
        go_wp2_with (fail)
        refine (HW.out u2 (tt P HT HB)).mono ?_; rintro e u3 ⟨rfl, hb⟩
        replace HB := Lib.hid (HB.out.trans (hb.mono HB.out.size)); clear hb
        go_wp2_with (fail)
        go_ret
        exact ⟨rfl, HB.out⟩
      | some y =>
        have HPN : Hid (∀ v, T v → Calls Tryd.prog 10 #[.string s] v fun e w' => e = .returned (.tuple #[snV y, .int .i64 0]) ∧ Below v.heap.size v w') := Lib.hid (fun v hv => by have h := HPS.out v hv; rw [hps] at h; exact h)
        obtain ⟨hm, hbs, _⟩ := par_some hps
        have HBS : Hid (∀ v, T v → Calls Tryd.prog 8 #[snV y] v fun e w' => e = .returned (.tuple #[.string s, .int .i64 0]) ∧ Below v.heap.size v w') := Lib.hid (fun v hv => by have h := P.bytes y v hv (may_bnd hm); unfold bytX at h; rw [if_pos hm, hbs] at h; exact h)
        have q1 : (s.toList == s.toList) = true := by simp
        clear hps HPS hm hbs
        go_wp2_with (fail)
        refine (HPN.out v4 (tt P HT HB)).mono ?_; rintro e u1 ⟨rfl, hb⟩
        replace HB := Lib.hid (HB.out.trans (hb.mono HB.out.size)); clear hb
        go_upto_region 9 with (fail)
        change Code.wp _ _ _ _ (u1.alloc (.cells (snC y) 23))
        have hb := (Below.refl u1.heap.size u1).alloc (Nat.le_refl _) (.cells (snC y) 23)
        replace HB := Lib.hid (HB.out.trans (hb.mono HB.out.size)); 
        have HY := Lib.hid (Blk.new u1 23 (snC y))
        obtain ⟨g, hg⟩ : ∃ g, g = u1.heap.size := ⟨_, rfl⟩
        rw [← hg] at HY ⊢
        clear hb hg
        generalize u1.alloc (.cells (snC y) 23) = u2 at *
        go_upto_region 11 with (fail)
        refine wp_region_lit ?_
        refine wpList_load_row rfl 23 (.tmp 9) rfl g rfl 23 (snC y) (0, 0) _ HY.out Tryd.underlying23 rfl sn_info ?_
        go_wp2_with (fail)
        refine (HBS.out u2 (tt P HT HB)).mono ?_; rintro e u3 ⟨rfl, hb⟩
        replace HB := Lib.hid (HB.out.trans (hb.mono HB.out.size)); clear hb
        go_wp2_with (fail)
        refine (HW.out u3 (tt P HT HB)).mono ?_; rintro e u4 ⟨rfl, hb⟩
        replace HB := Lib.hid (HB.out.trans (hb.mono HB.out.size)); clear hb
        go_wp2_with (fail)
        go_ret
        exact ⟨rfl, HB.out⟩
end Go.Proofs.YthcaeihpdlgcaaaDoor
