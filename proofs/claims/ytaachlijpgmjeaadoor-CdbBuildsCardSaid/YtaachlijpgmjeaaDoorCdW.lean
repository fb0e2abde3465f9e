/- Does a form allow a text; how long a block is; what a text asks. -/
import Derived.Test.YtaachlijpgmjeaaDoorCdV
namespace Go.Proofs.YtaachlijpgmjeaaDoor
open Go.RowKit
set_option maxRecDepth 100000 in
set_option maxHeartbeats 4000000 in
theorem allow_any (f : Fm) (hf : f.Ok) (s : ByteArray) (x : Ak) (w : World) (h3 : 3 ≤ s.size) : Calls Tryd.prog 23 #[fmV f, .string s, akV x] w fun e w' => e = .returned (.bool (allowF f s x)) ∧ Below w.heap.size w w' := by
  have HA := Lib.hid (fun v => action_any s v (by omega))
  have HB3 := Lib.hid (fun v => bitN_any f.acts (byt s 1 % 32) v hf.acts (by omega))
  have HB4 := Lib.hid (fun v => bitN_any f.typ (byt s 1 % 32) v hf.typ (by omega))
  have HNA := Lib.hid (fun n v => nar_any n v)
  have hx1 := fun w => index_byt s 1 1 rfl (by omega) w
  have hx2 := fun w => index_byt s 2 2 rfl (by omega) w
  have l1 := byt_lt s 1
  have l2 := byt_lt s 2
  have hN1 : bits BinOp.and IntKind.u8 (byt s 1 : Int) (f.must : Int) = ((byt s 1 &&& f.must : Nat) : Int) := u8_and_nat _ _ l1 hf.must
  have hN2 : bits BinOp.and IntKind.u8 (byt s 2 : Int) (f.emp : Int) = ((byt s 2 &&& f.emp : Nat) : Int) := u8_and_nat _ _ l2 hf.emp
  obtain ⟨n1, hn1⟩ : ∃ n1, n1 = byt s 1 &&& f.must := ⟨_, rfl⟩
  obtain ⟨n2, hn2⟩ : ∃ n2, n2 = byt s 2 &&& f.emp := ⟨_, rfl⟩
  obtain ⟨k5, hk5⟩ : ∃ k5, k5 = byt s 1 % 32 := ⟨_, rfl⟩
  rw [← hn1] at hN1
  rw [← hn2] at hN2
  rw [← hk5] at HA HB3 HB4
  have HV := Lib.hid (show allowF f s x = (if n1 ≠ f.must then false else if n2 ≠ 0 then false else if f.acts ≠ 0 ∧ bitN f.acts k5 = false then false else if bitN f.typ k5 = true ∧ x.ty = 0 then false else if f.nar = true ∧ (narB x.lba && narB x.blk) = false then false else decide (f.lst = 0 ∨ x.want = f.lst)) by rw [hn1, hn2, hk5]; rfl)
  generalize allowF f s x = r at HV
  generalize hB3 : bitN f.acts k5 = B3 at *
  generalize hB4 : bitN f.typ k5 = B4 at *
  clear hn1 hn2 hk5 hB3 hB4
  have HB0 := Lib.hid (((Below.refl w.heap.size w).alloc (Nat.le_refl _) (.cells (fmC f) 51)).alloc (by simp) (.cells (akC x) 24))
  have HX0 := Lib.hid ((Blk.new w 51 (fmC f)).alloc (.cells (akC x) 24))
  have HR0 := Lib.hid (show Blk ((w.alloc (.cells (fmC f) 51)).alloc (.cells (akC x) 24)) (w.heap.size + 1) 24 (akC x) by
    have := Blk.new (w.alloc (.cells (fmC f) 51)) 24 (akC x)
    rwa [show (w.alloc (.cells (fmC f) 51)).heap.size = w.heap.size + 1 by simp] at this)
  go_enter Tryd.func23, Tryd.ntmps23
  go_upto_region 1 with (fail)
  change Code.wp _ _ _ _ ((w.alloc (.cells (fmC f) 51)).alloc (.cells (akC x) 24))
  have hsz : (w.alloc (.cells (fmC f) 51)).heap.size = w.heap.size + 1 := by simp
  generalize (w.alloc (.cells (fmC f) 51)).alloc (.cells (akC x) 24) = v0 at *
  try rw [hsz]
  clear hsz
  obtain ⟨p, hp⟩ : ∃ p, p = w.heap.size := ⟨_, rfl⟩
  have HP := Lib.hid hp
  rw [← hp] at HX0 HR0 ⊢
  clear hp
  go_wp2_with (fail)
  refine (HA.out _).mono ?_; rintro e v1 ⟨rfl, hb⟩
  have HB := Lib.hid (HB0.out.trans (hb.mono HB0.out.size)); have HX := Lib.hid (HX0.out.below hb HX0.out.lt); have HR := Lib.hid (HR0.out.below hb HR0.out.lt)
  clear hb HB0 HX0 HR0
  cases q1 : ((n1 : Int) != (f.must : Int)) with
  | true =>
    go_upto_region 2 with (fail)
    refine wp_region_held_drew (S := fun v => Blk v p 51 (fmC f)) (by kernel_rfl) ?_ (fun hHeld => ?_)
    · exact HX.out.drew
    replace HB := Lib.hid HB.out.drew; replace HX := Lib.hid HX.out.drew; replace HR := Lib.hid HR.out.drew
    generalize v1.drew = v1d at *
    refine takeH (i := 0) (v := ?_) rfl (by kernel_rfl) (by kernel_rfl) (by kernel_rfl) (fun _ _ _ h => h) (some 11) rfl (Or.inl ⟨by rfl, ?_⟩) (by assumption) ?_
    rotate_left 1
    · intro wz hSw
      go_simp
      try with_reducible rfl
    simp only [Act.put, List.setIfInBounds_toArray, List.set_cons_zero, List.set_cons_succ]
    refine takeH (i := 1) (v := ?_) rfl (by kernel_rfl) (by kernel_rfl) (by kernel_rfl) (fun _ _ _ h => h) (some 12) rfl (Or.inl ⟨by rfl, ?_⟩) (by assumption) ?_
    rotate_left 1
    · intro wz hSw
      go_simp
      try with_reducible rfl
    simp only [Act.put, List.setIfInBounds_toArray, List.set_cons_zero, List.set_cons_succ]
    refine takeH (i := 2) (v := ?_) rfl (by kernel_rfl) (by kernel_rfl) (by kernel_rfl) (fun _ _ _ h => h) (some 13) rfl (Or.inl ⟨by rfl, ?_⟩) (by assumption) ?_
    rotate_left 1
    · intro wz hSw
      go_simp
      try with_reducible rfl
    simp only [Act.put, List.setIfInBounds_toArray, List.set_cons_zero, List.set_cons_succ]
    refine takeH (i := 3) (v := ?_) rfl (by kernel_rfl) (by kernel_rfl) (by kernel_rfl) (fun _ _ _ h => h) (some 14) rfl (Or.inl ⟨by rfl, ?_⟩) (by assumption) ?_
    rotate_left 1
    · intro wz hSw
      have c9 : wz.cell? ⟨p, 9, none⟩ = some (.int .u8 (f.must : Int)) := hSw.cell 9
      have c14 : wz.cell? ⟨p, 14, none⟩ = some (.int .u8 (f.emp : Int)) := hSw.cell 14
      go_simp
      try with_reducible rfl
    simp only [Act.put, List.setIfInBounds_toArray, List.set_cons_zero, List.set_cons_succ]
    refine takeH (i := 4) (v := ?_) rfl (by kernel_rfl) (by kernel_rfl) (by kernel_rfl) (fun _ _ _ h => h) (some 15) rfl (Or.inl ⟨by rfl, ?_⟩) (by assumption) ?_
    rotate_left 1
    · intro wz hSw
      go_simp
      try with_reducible rfl
    simp only [Act.put, List.setIfInBounds_toArray, List.set_cons_zero, List.set_cons_succ]
    refine takeH (i := 5) (v := ?_) rfl (by kernel_rfl) (by kernel_rfl) (by kernel_rfl) (fun _ _ _ h => h) (some 16) rfl (Or.inl ⟨by rfl, ?_⟩) (by assumption) ?_
    rotate_left 1
    · intro wz hSw
      go_simp
      try with_reducible rfl
    simp only [Act.put, List.setIfInBounds_toArray, List.set_cons_zero, List.set_cons_succ]
    refine takeH (i := 6) (v := ?_) rfl (by kernel_rfl) (by kernel_rfl) (by kernel_rfl) (fun _ _ _ h => h) (some 17) rfl (Or.inl ⟨by rfl, ?_⟩) (by assumption) ?_
    rotate_left 1
    · intro wz hSw
      have c9 : wz.cell? ⟨p, 9, none⟩ = some (.int .u8 (f.must : Int)) := hSw.cell 9
      have c14 : wz.cell? ⟨p, 14, none⟩ = some (.int .u8 (f.emp : Int)) := hSw.cell 14
      go_simp
      try with_reducible rfl
    simp only [Act.put, List.setIfInBounds_toArray, List.set_cons_zero, List.set_cons_succ]
    refine takeH (i := 7) (v := ?_) rfl (by kernel_rfl) (by kernel_rfl) (by kernel_rfl) (fun _ _ _ h => h) (some 18) rfl (Or.inl ⟨by rfl, ?_⟩) (by assumption) ?_
    rotate_left 1
    · intro wz hSw
      go_simp
      try with_reducible rfl
    simp only [Act.put, List.setIfInBounds_toArray, List.set_cons_zero, List.set_cons_succ]
    refine takeH (i := 8) (v := ?_) rfl (by kernel_rfl) (by kernel_rfl) (by kernel_rfl) (fun _ _ _ h => h) (some 10) rfl (Or.inl ⟨by rfl, ?_⟩) (by assumption) ?_
    rotate_left 1
    · intro wz hSw
      go_simp
      try with_reducible rfl
    simp only [Act.put, List.setIfInBounds_toArray, List.set_cons_zero, List.set_cons_succ]
    refine wpAnyH_done (by kernel_rfl) ?_ _
    clear hHeld
    go_wp2_with (fail)
    go_ret
    exact ⟨by rw [HV.out]; rw [if_pos (show n1 ≠ f.must by have h := q1; rw [bne_iff_ne] at h; omega)]; rfl, HB.out⟩
  | false =>
    cases q2 : ((n2 : Int) != 0) with
    | true =>
      go_upto_region 2 with (fail)
      refine wp_region_held_drew (S := fun v => Blk v p 51 (fmC f)) (by kernel_rfl) ?_ (fun hHeld => ?_)
      · exact HX.out.drew
      replace HB := Lib.hid HB.out.drew; replace HX := Lib.hid HX.out.drew; replace HR := Lib.hid HR.out.drew
      generalize v1.drew = v1d at *
      refine takeH (i := 0) (v := ?_) rfl (by kernel_rfl) (by kernel_rfl) (by kernel_rfl) (fun _ _ _ h => h) (some 11) rfl (Or.inl ⟨by rfl, ?_⟩) (by assumption) ?_
      rotate_left 1
      · intro wz hSw
        go_simp
        try with_reducible rfl
      simp only [Act.put, List.setIfInBounds_toArray, List.set_cons_zero, List.set_cons_succ]
      refine takeH (i := 1) (v := ?_) rfl (by kernel_rfl) (by kernel_rfl) (by kernel_rfl) (fun _ _ _ h => h) (some 12) rfl (Or.inl ⟨by rfl, ?_⟩) (by assumption) ?_
      rotate_left 1
      · intro wz hSw
        go_simp
        try with_reducible rfl
      simp only [Act.put, List.setIfInBounds_toArray, List.set_cons_zero, List.set_cons_succ]
      refine takeH (i := 2) (v := ?_) rfl (by kernel_rfl) (by kernel_rfl) (by kernel_rfl) (fun _ _ _ h => h) (some 13) rfl (Or.inl ⟨by rfl, ?_⟩) (by assumption) ?_
      rotate_left 1
      · intro wz hSw
        go_simp
        try with_reducible rfl
      simp only [Act.put, List.setIfInBounds_toArray, List.set_cons_zero, List.set_cons_succ]
      refine takeH (i := 3) (v := ?_) rfl (by kernel_rfl) (by kernel_rfl) (by kernel_rfl) (fun _ _ _ h => h) (some 14) rfl (Or.inl ⟨by rfl, ?_⟩) (by assumption) ?_
      rotate_left 1
      · intro wz hSw
        have c9 : wz.cell? ⟨p, 9, none⟩ = some (.int .u8 (f.must : Int)) := hSw.cell 9
        have c14 : wz.cell? ⟨p, 14, none⟩ = some (.int .u8 (f.emp : Int)) := hSw.cell 14
        go_simp
        try with_reducible rfl
      simp only [Act.put, List.setIfInBounds_toArray, List.set_cons_zero, List.set_cons_succ]
      refine takeH (i := 4) (v := ?_) rfl (by kernel_rfl) (by kernel_rfl) (by kernel_rfl) (fun _ _ _ h => h) (some 15) rfl (Or.inl ⟨by rfl, ?_⟩) (by assumption) ?_
      rotate_left 1
      · intro wz hSw
        go_simp
        try with_reducible rfl
      simp only [Act.put, List.setIfInBounds_toArray, List.set_cons_zero, List.set_cons_succ]
      refine takeH (i := 5) (v := ?_) rfl (by kernel_rfl) (by kernel_rfl) (by kernel_rfl) (fun _ _ _ h => h) (some 16) rfl (Or.inl ⟨by rfl, ?_⟩) (by assumption) ?_
      rotate_left 1
      · intro wz hSw
        go_simp
        try with_reducible rfl
      simp only [Act.put, List.setIfInBounds_toArray, List.set_cons_zero, List.set_cons_succ]
      refine takeH (i := 6) (v := ?_) rfl (by kernel_rfl) (by kernel_rfl) (by kernel_rfl) (fun _ _ _ h => h) (some 17) rfl (Or.inl ⟨by rfl, ?_⟩) (by assumption) ?_
      rotate_left 1
      · intro wz hSw
        have c9 : wz.cell? ⟨p, 9, none⟩ = some (.int .u8 (f.must : Int)) := hSw.cell 9
        have c14 : wz.cell? ⟨p, 14, none⟩ = some (.int .u8 (f.emp : Int)) := hSw.cell 14
        go_simp
        try with_reducible rfl
      simp only [Act.put, List.setIfInBounds_toArray, List.set_cons_zero, List.set_cons_succ]
      refine takeH (i := 7) (v := ?_) rfl (by kernel_rfl) (by kernel_rfl) (by kernel_rfl) (fun _ _ _ h => h) (some 18) rfl (Or.inl ⟨by rfl, ?_⟩) (by assumption) ?_
      rotate_left 1
      · intro wz hSw
        go_simp
        try with_reducible rfl
      simp only [Act.put, List.setIfInBounds_toArray, List.set_cons_zero, List.set_cons_succ]
      refine takeH (i := 8) (v := ?_) rfl (by kernel_rfl) (by kernel_rfl) (by kernel_rfl) (fun _ _ _ h => h) (some 10) rfl (Or.inl ⟨by rfl, ?_⟩) (by assumption) ?_
      rotate_left 1
      · intro wz hSw
        go_simp
        try with_reducible rfl
      simp only [Act.put, List.setIfInBounds_toArray, List.set_cons_zero, List.set_cons_succ]
      refine wpAnyH_done (by kernel_rfl) ?_ _
      clear hHeld
      go_upto_region 3 with (fail)
      refine wp_region_held_drew (S := fun v => Blk v p 51 (fmC f)) (by kernel_rfl) ?_ (fun hHeld => ?_)
      · exact HX.out.drew
      replace HB := Lib.hid HB.out.drew; replace HX := Lib.hid HX.out.drew; replace HR := Lib.hid HR.out.drew
      generalize v1d.drew = v1dd at *
      refine takeH (i := 0) (v := ?_) rfl (by kernel_rfl) (by kernel_rfl) (by kernel_rfl) (fun _ _ _ h => h) (some 19) rfl (Or.inl ⟨by rfl, ?_⟩) (by assumption) ?_
      rotate_left 1
      · intro wz hSw
        go_simp
        try with_reducible rfl
      simp only [Act.put, List.setIfInBounds_toArray, List.set_cons_zero, List.set_cons_succ]
      refine takeH (i := 1) (v := ?_) rfl (by kernel_rfl) (by kernel_rfl) (by kernel_rfl) (fun _ _ _ h => h) (some 20) rfl (Or.inl ⟨by rfl, ?_⟩) (by assumption) ?_
      rotate_left 1
      · intro wz hSw
        go_simp
        try with_reducible rfl
      simp only [Act.put, List.setIfInBounds_toArray, List.set_cons_zero, List.set_cons_succ]
      refine takeH (i := 2) (v := ?_) rfl (by kernel_rfl) (by kernel_rfl) (by kernel_rfl) (fun _ _ _ h => h) (some 21) rfl (Or.inl ⟨by rfl, ?_⟩) (by assumption) ?_
      rotate_left 1
      · intro wz hSw
        go_simp
        try with_reducible rfl
      simp only [Act.put, List.setIfInBounds_toArray, List.set_cons_zero, List.set_cons_succ]
      refine takeH (i := 3) (v := ?_) rfl (by kernel_rfl) (by kernel_rfl) (by kernel_rfl) (fun _ _ _ h => h) (some 22) rfl (Or.inl ⟨by rfl, ?_⟩) (by assumption) ?_
      rotate_left 1
      · intro wz hSw
        have c9 : wz.cell? ⟨p, 9, none⟩ = some (.int .u8 (f.must : Int)) := hSw.cell 9
        have c14 : wz.cell? ⟨p, 14, none⟩ = some (.int .u8 (f.emp : Int)) := hSw.cell 14
        go_simp
        try with_reducible rfl
      simp only [Act.put, List.setIfInBounds_toArray, List.set_cons_zero, List.set_cons_succ]
      refine takeH (i := 4) (v := ?_) rfl (by kernel_rfl) (by kernel_rfl) (by kernel_rfl) (fun _ _ _ h => h) (some 23) rfl (Or.inl ⟨by rfl, ?_⟩) (by assumption) ?_
      rotate_left 1
      · intro wz hSw
        go_simp
        try with_reducible rfl
      simp only [Act.put, List.setIfInBounds_toArray, List.set_cons_zero, List.set_cons_succ]
      refine takeH (i := 5) (v := ?_) rfl (by kernel_rfl) (by kernel_rfl) (by kernel_rfl) (fun _ _ _ h => h) (some 24) rfl (Or.inl ⟨by rfl, ?_⟩) (by assumption) ?_
      rotate_left 1
      · intro wz hSw
        go_simp
        try with_reducible rfl
      simp only [Act.put, List.setIfInBounds_toArray, List.set_cons_zero, List.set_cons_succ]
      refine takeH (i := 6) (v := ?_) rfl (by kernel_rfl) (by kernel_rfl) (by kernel_rfl) (fun _ _ _ h => h) (some 10) rfl (Or.inl ⟨by rfl, ?_⟩) (by assumption) ?_
      rotate_left 1
      · intro wz hSw
        go_simp
        try with_reducible rfl
      simp only [Act.put, List.setIfInBounds_toArray, List.set_cons_zero, List.set_cons_succ]
      refine wpAnyH_done (by kernel_rfl) ?_ _
      clear hHeld
      go_wp2_with (fail)
      go_ret
      exact ⟨by rw [HV.out]; rw [if_neg (show ¬ n1 ≠ f.must by have h := q1; rw [bne_eq_false_iff_eq] at h; omega), if_pos (show n2 ≠ 0 by have h := q2; rw [bne_iff_ne] at h; omega)]; rfl, HB.out⟩
    | false =>
      go_upto_region 2 with (fail)
      refine wp_region_held_drew (S := fun v => Blk v p 51 (fmC f)) (by kernel_rfl) ?_ (fun hHeld => ?_)
      · exact HX.out.drew
      replace HB := Lib.hid HB.out.drew; replace HX := Lib.hid HX.out.drew; replace HR := Lib.hid HR.out.drew
      generalize v1.drew = v1d at *
      refine takeH (i := 0) (v := ?_) rfl (by kernel_rfl) (by kernel_rfl) (by kernel_rfl) (fun _ _ _ h => h) (some 11) rfl (Or.inl ⟨by rfl, ?_⟩) (by assumption) ?_
      rotate_left 1
      · intro wz hSw
        go_simp
        try with_reducible rfl
      simp only [Act.put, List.setIfInBounds_toArray, List.set_cons_zero, List.set_cons_succ]
      refine takeH (i := 1) (v := ?_) rfl (by kernel_rfl) (by kernel_rfl) (by kernel_rfl) (fun _ _ _ h => h) (some 12) rfl (Or.inl ⟨by rfl, ?_⟩) (by assumption) ?_
      rotate_left 1
      · intro wz hSw
        go_simp
        try with_reducible rfl
      simp only [Act.put, List.setIfInBounds_toArray, List.set_cons_zero, List.set_cons_succ]
      refine takeH (i := 2) (v := ?_) rfl (by kernel_rfl) (by kernel_rfl) (by kernel_rfl) (fun _ _ _ h => h) (some 13) rfl (Or.inl ⟨by rfl, ?_⟩) (by assumption) ?_
      rotate_left 1
      · intro wz hSw
        go_simp
        try with_reducible rfl
      simp only [Act.put, List.setIfInBounds_toArray, List.set_cons_zero, List.set_cons_succ]
      refine takeH (i := 3) (v := ?_) rfl (by kernel_rfl) (by kernel_rfl) (by kernel_rfl) (fun _ _ _ h => h) (some 14) rfl (Or.inl ⟨by rfl, ?_⟩) (by assumption) ?_
      rotate_left 1
      · intro wz hSw
        have c9 : wz.cell? ⟨p, 9, none⟩ = some (.int .u8 (f.must : Int)) := hSw.cell 9
        have c14 : wz.cell? ⟨p, 14, none⟩ = some (.int .u8 (f.emp : Int)) := hSw.cell 14
        go_simp
        try with_reducible rfl
      simp only [Act.put, List.setIfInBounds_toArray, List.set_cons_zero, List.set_cons_succ]
      refine takeH (i := 4) (v := ?_) rfl (by kernel_rfl) (by kernel_rfl) (by kernel_rfl) (fun _ _ _ h => h) (some 15) rfl (Or.inl ⟨by rfl, ?_⟩) (by assumption) ?_
      rotate_left 1
      · intro wz hSw
        go_simp
        try with_reducible rfl
      simp only [Act.put, List.setIfInBounds_toArray, List.set_cons_zero, List.set_cons_succ]
      refine takeH (i := 5) (v := ?_) rfl (by kernel_rfl) (by kernel_rfl) (by kernel_rfl) (fun _ _ _ h => h) (some 16) rfl (Or.inl ⟨by rfl, ?_⟩) (by assumption) ?_
      rotate_left 1
      · intro wz hSw
        go_simp
        try with_reducible rfl
      simp only [Act.put, List.setIfInBounds_toArray, List.set_cons_zero, List.set_cons_succ]
      refine takeH (i := 6) (v := ?_) rfl (by kernel_rfl) (by kernel_rfl) (by kernel_rfl) (fun _ _ _ h => h) (some 17) rfl (Or.inl ⟨by rfl, ?_⟩) (by assumption) ?_
      rotate_left 1
      · intro wz hSw
        have c9 : wz.cell? ⟨p, 9, none⟩ = some (.int .u8 (f.must : Int)) := hSw.cell 9
        have c14 : wz.cell? ⟨p, 14, none⟩ = some (.int .u8 (f.emp : Int)) := hSw.cell 14
        go_simp
        try with_reducible rfl
      simp only [Act.put, List.setIfInBounds_toArray, List.set_cons_zero, List.set_cons_succ]
      refine takeH (i := 7) (v := ?_) rfl (by kernel_rfl) (by kernel_rfl) (by kernel_rfl) (fun _ _ _ h => h) (some 18) rfl (Or.inl ⟨by rfl, ?_⟩) (by assumption) ?_
      rotate_left 1
      · intro wz hSw
        go_simp
        try with_reducible rfl
      simp only [Act.put, List.setIfInBounds_toArray, List.set_cons_zero, List.set_cons_succ]
      refine takeH (i := 8) (v := ?_) rfl (by kernel_rfl) (by kernel_rfl) (by kernel_rfl) (fun _ _ _ h => h) (some 10) rfl (Or.inl ⟨by rfl, ?_⟩) (by assumption) ?_
      rotate_left 1
      · intro wz hSw
        go_simp
        try with_reducible rfl
      simp only [Act.put, List.setIfInBounds_toArray, List.set_cons_zero, List.set_cons_succ]
      refine wpAnyH_done (by kernel_rfl) ?_ _
      clear hHeld
      go_upto_region 3 with (fail)
      refine wp_region_held_drew (S := fun v => Blk v p 51 (fmC f)) (by kernel_rfl) ?_ (fun hHeld => ?_)
      · exact HX.out.drew
      replace HB := Lib.hid HB.out.drew; replace HX := Lib.hid HX.out.drew; replace HR := Lib.hid HR.out.drew
      generalize v1d.drew = v1dd at *
      refine takeH (i := 0) (v := ?_) rfl (by kernel_rfl) (by kernel_rfl) (by kernel_rfl) (fun _ _ _ h => h) (some 19) rfl (Or.inl ⟨by rfl, ?_⟩) (by assumption) ?_
      rotate_left 1
      · intro wz hSw
        go_simp
        try with_reducible rfl
      simp only [Act.put, List.setIfInBounds_toArray, List.set_cons_zero, List.set_cons_succ]
      refine takeH (i := 1) (v := ?_) rfl (by kernel_rfl) (by kernel_rfl) (by kernel_rfl) (fun _ _ _ h => h) (some 20) rfl (Or.inl ⟨by rfl, ?_⟩) (by assumption) ?_
      rotate_left 1
      · intro wz hSw
        go_simp
        try with_reducible rfl
      simp only [Act.put, List.setIfInBounds_toArray, List.set_cons_zero, List.set_cons_succ]
      refine takeH (i := 2) (v := ?_) rfl (by kernel_rfl) (by kernel_rfl) (by kernel_rfl) (fun _ _ _ h => h) (some 21) rfl (Or.inl ⟨by rfl, ?_⟩) (by assumption) ?_
      rotate_left 1
      · intro wz hSw
        go_simp
        try with_reducible rfl
      simp only [Act.put, List.setIfInBounds_toArray, List.set_cons_zero, List.set_cons_succ]
      refine takeH (i := 3) (v := ?_) rfl (by kernel_rfl) (by kernel_rfl) (by kernel_rfl) (fun _ _ _ h => h) (some 22) rfl (Or.inl ⟨by rfl, ?_⟩) (by assumption) ?_
      rotate_left 1
      · intro wz hSw
        have c9 : wz.cell? ⟨p, 9, none⟩ = some (.int .u8 (f.must : Int)) := hSw.cell 9
        have c14 : wz.cell? ⟨p, 14, none⟩ = some (.int .u8 (f.emp : Int)) := hSw.cell 14
        go_simp
        try with_reducible rfl
      simp only [Act.put, List.setIfInBounds_toArray, List.set_cons_zero, List.set_cons_succ]
      refine takeH (i := 4) (v := ?_) rfl (by kernel_rfl) (by kernel_rfl) (by kernel_rfl) (fun _ _ _ h => h) (some 23) rfl (Or.inl ⟨by rfl, ?_⟩) (by assumption) ?_
      rotate_left 1
      · intro wz hSw
        go_simp
        try with_reducible rfl
      simp only [Act.put, List.setIfInBounds_toArray, List.set_cons_zero, List.set_cons_succ]
      refine takeH (i := 5) (v := ?_) rfl (by kernel_rfl) (by kernel_rfl) (by kernel_rfl) (fun _ _ _ h => h) (some 24) rfl (Or.inl ⟨by rfl, ?_⟩) (by assumption) ?_
      rotate_left 1
      · intro wz hSw
        go_simp
        try with_reducible rfl
      simp only [Act.put, List.setIfInBounds_toArray, List.set_cons_zero, List.set_cons_succ]
      refine takeH (i := 6) (v := ?_) rfl (by kernel_rfl) (by kernel_rfl) (by kernel_rfl) (fun _ _ _ h => h) (some 10) rfl (Or.inl ⟨by rfl, ?_⟩) (by assumption) ?_
      rotate_left 1
      · intro wz hSw
        go_simp
        try with_reducible rfl
      simp only [Act.put, List.setIfInBounds_toArray, List.set_cons_zero, List.set_cons_succ]
      refine wpAnyH_done (by kernel_rfl) ?_ _
      clear hHeld
      go_upto_region 5 with (fail)
      have c12 : v1dd.cell? ⟨p, 12, none⟩ = some (.int .u64 (f.acts : Int)) := HX.out.cell 12
      cases q3 : ((f.acts : Int) != 0) with
      | true =>
        go_wp2_with (fail)
        refine (HB3.out _).mono ?_; rintro e v2 ⟨rfl, hb⟩
        replace HB := Lib.hid (HB.out.trans (hb.mono HB.out.size)); replace HX := Lib.hid (HX.out.below hb HX.out.lt); replace HR := Lib.hid (HR.out.below hb HR.out.lt)
        clear hb
        clear c12
        cases qB : B3 with
        | true =>
          go_upto_region 7 with (fail)
          have c13 : v2.cell? ⟨p, 13, none⟩ = some (.int .u64 (f.typ : Int)) := HX.out.cell 13
          go_wp2_with (fail)
          refine (HB4.out _).mono ?_; rintro e v3 ⟨rfl, hb⟩
          replace HB := Lib.hid (HB.out.trans (hb.mono HB.out.size)); replace HX := Lib.hid (HX.out.below hb HX.out.lt); replace HR := Lib.hid (HR.out.below hb HR.out.lt)
          clear hb
          clear c13
          cases q4 : B4 with
          | true =>
            have d6 : v3.cell? ⟨p + 1, 6, none⟩ = some (.int .i64 x.ty) := HR.out.cell 6
            cases q5 : (x.ty == 0) with
            | true =>
              go_wp2_with (fail)
              go_ret
              exact ⟨by rw [HV.out]; rw [if_neg (show ¬ n1 ≠ f.must by have h := q1; rw [bne_eq_false_iff_eq] at h; omega), if_neg (show ¬ n2 ≠ 0 by have h := q2; rw [bne_eq_false_iff_eq] at h; omega), if_neg (show ¬ (f.acts ≠ 0 ∧ B3 = false) by rw [qB]; exact fun h => by cases h.2), if_pos (show B4 = true ∧ x.ty = 0 by rw [q4]; exact ⟨rfl, by simpa using q5⟩)]; rfl, HB.out⟩
            | false =>
              go_upto_region 9 with (fail)
              clear d6
              have c8 : v3.cell? ⟨p, 8, none⟩ = some (.bool f.nar) := HX.out.cell 8
              have d1 : v3.cell? ⟨p + 1, 1, none⟩ = some (.int .i64 x.lba) := HR.out.cell 1
              have d2 : v3.cell? ⟨p + 1, 2, none⟩ = some (.int .i64 x.blk) := HR.out.cell 2
              cases qn : f.nar with
              | true =>
                go_wp2_with (fail)
                refine (HNA.out x.lba _).mono ?_; rintro e v9 ⟨rfl, rfl⟩
                cases ql : narB x.lba with
                | true =>
                  go_wp2_with (fail)
                  refine (HNA.out x.blk _).mono ?_; rintro e v9 ⟨rfl, rfl⟩
                  cases qb : narB x.blk with
                  | true =>
                    clear c8 d1 d2
                    have c15 : v3.cell? ⟨p, 15, none⟩ = some (.int .i64 (f.lst : Int)) := HX.out.cell 15
                    have d5 : v3.cell? ⟨p + 1, 5, none⟩ = some (.int .i64 x.want) := HR.out.cell 5
                    cases q6 : ((f.lst : Int) == 0) with
                    | true =>
                      have q7 : ((f.lst : Int) == 0) = true := q6
                      go_wp2_with (fail)
                      go_ret
                      exact ⟨by rw [HV.out]; rw [if_neg (show ¬ n1 ≠ f.must by have h := q1; rw [bne_eq_false_iff_eq] at h; omega), if_neg (show ¬ n2 ≠ 0 by have h := q2; rw [bne_eq_false_iff_eq] at h; omega), if_neg (show ¬ (f.acts ≠ 0 ∧ B3 = false) by rw [qB]; exact fun h => by cases h.2), if_neg (show ¬ (B4 = true ∧ x.ty = 0) from fun h => by have := h.2; simp [this] at q5), if_neg (show ¬ (f.nar = true ∧ (narB x.lba && narB x.blk) = false) by rw [qn, ql, qb]; exact fun h => by cases h.2), decide_eq_true (show f.lst = 0 ∨ x.want = f.lst from .inl (by have h := q6; rw [beq_iff_eq] at h; omega))]; rfl, HB.out⟩
                    | false =>
                      cases q8 : (x.want == (f.lst : Int)) with
                      | true =>
                        go_wp2_with (fail)
                        go_ret
                        exact ⟨by rw [HV.out]; rw [if_neg (show ¬ n1 ≠ f.must by have h := q1; rw [bne_eq_false_iff_eq] at h; omega), if_neg (show ¬ n2 ≠ 0 by have h := q2; rw [bne_eq_false_iff_eq] at h; omega), if_neg (show ¬ (f.acts ≠ 0 ∧ B3 = false) by rw [qB]; exact fun h => by cases h.2), if_neg (show ¬ (B4 = true ∧ x.ty = 0) from fun h => by have := h.2; simp [this] at q5), if_neg (show ¬ (f.nar = true ∧ (narB x.lba && narB x.blk) = false) by rw [qn, ql, qb]; exact fun h => by cases h.2), decide_eq_true (show f.lst = 0 ∨ x.want = f.lst from .inr (by simpa using q8))]; rfl, HB.out⟩
                      | false =>
                        go_wp2_with (fail)
                        go_ret
                        exact ⟨by rw [HV.out]; rw [if_neg (show ¬ n1 ≠ f.must by have h := q1; rw [bne_eq_false_iff_eq] at h; omega), if_neg (show ¬ n2 ≠ 0 by have h := q2; rw [bne_eq_false_iff_eq] at h; omega), if_neg (show ¬ (f.acts ≠ 0 ∧ B3 = false) by rw [qB]; exact fun h => by cases h.2), if_neg (show ¬ (B4 = true ∧ x.ty = 0) from fun h => by have := h.2; simp [this] at q5), if_neg (show ¬ (f.nar = true ∧ (narB x.lba && narB x.blk) = false) by rw [qn, ql, qb]; exact fun h => by cases h.2), decide_eq_false (show ¬ (f.lst = 0 ∨ x.want = f.lst) by have h := q6; have h2 := q8; rw [beq_eq_false_iff_ne] at h h2; omega)]; rfl, HB.out⟩
                  | false =>
                    go_wp2_with (fail)
                    go_ret
                    exact ⟨by rw [HV.out]; rw [if_neg (show ¬ n1 ≠ f.must by have h := q1; rw [bne_eq_false_iff_eq] at h; omega), if_neg (show ¬ n2 ≠ 0 by have h := q2; rw [bne_eq_false_iff_eq] at h; omega), if_neg (show ¬ (f.acts ≠ 0 ∧ B3 = false) by rw [qB]; exact fun h => by cases h.2), if_neg (show ¬ (B4 = true ∧ x.ty = 0) from fun h => by have := h.2; simp [this] at q5), if_pos (show f.nar = true ∧ (narB x.lba && narB x.blk) = false by rw [qn, ql, qb]; exact ⟨rfl, rfl⟩)]; rfl, HB.out⟩
                | false =>
                  go_wp2_with (fail)
                  go_ret
                  exact ⟨by rw [HV.out]; rw [if_neg (show ¬ n1 ≠ f.must by have h := q1; rw [bne_eq_false_iff_eq] at h; omega), if_neg (show ¬ n2 ≠ 0 by have h := q2; rw [bne_eq_false_iff_eq] at h; omega), if_neg (show ¬ (f.acts ≠ 0 ∧ B3 = false) by rw [qB]; exact fun h => by cases h.2), if_neg (show ¬ (B4 = true ∧ x.ty = 0) from fun h => by have := h.2; simp [this] at q5), if_pos (show f.nar = true ∧ (narB x.lba && narB x.blk) = false by rw [qn, ql]; exact ⟨rfl, rfl⟩)]; rfl, HB.out⟩
              | false =>
                go_upto_region 11 with (fail)
                clear c8 d1 d2
                have c15 : v3.cell? ⟨p, 15, none⟩ = some (.int .i64 (f.lst : Int)) := HX.out.cell 15
                have d5 : v3.cell? ⟨p + 1, 5, none⟩ = some (.int .i64 x.want) := HR.out.cell 5
                cases q6 : ((f.lst : Int) == 0) with
                | true =>
                  have q7 : ((f.lst : Int) == 0) = true := q6
                  go_wp2_with (fail)
                  go_ret
                  exact ⟨by rw [HV.out]; rw [if_neg (show ¬ n1 ≠ f.must by have h := q1; rw [bne_eq_false_iff_eq] at h; omega), if_neg (show ¬ n2 ≠ 0 by have h := q2; rw [bne_eq_false_iff_eq] at h; omega), if_neg (show ¬ (f.acts ≠ 0 ∧ B3 = false) by rw [qB]; exact fun h => by cases h.2), if_neg (show ¬ (B4 = true ∧ x.ty = 0) from fun h => by have := h.2; simp [this] at q5), if_neg (show ¬ (f.nar = true ∧ (narB x.lba && narB x.blk) = false) by rw [qn]; exact fun h => by cases h.1), decide_eq_true (show f.lst = 0 ∨ x.want = f.lst from .inl (by have h := q6; rw [beq_iff_eq] at h; omega))]; rfl, HB.out⟩
                | false =>
                  cases q8 : (x.want == (f.lst : Int)) with
                  | true =>
                    go_wp2_with (fail)
                    go_ret
                    exact ⟨by rw [HV.out]; rw [if_neg (show ¬ n1 ≠ f.must by have h := q1; rw [bne_eq_false_iff_eq] at h; omega), if_neg (show ¬ n2 ≠ 0 by have h := q2; rw [bne_eq_false_iff_eq] at h; omega), if_neg (show ¬ (f.acts ≠ 0 ∧ B3 = false) by rw [qB]; exact fun h => by cases h.2), if_neg (show ¬ (B4 = true ∧ x.ty = 0) from fun h => by have := h.2; simp [this] at q5), if_neg (show ¬ (f.nar = true ∧ (narB x.lba && narB x.blk) = false) by rw [qn]; exact fun h => by cases h.1), decide_eq_true (show f.lst = 0 ∨ x.want = f.lst from .inr (by simpa using q8))]; rfl, HB.out⟩
                  | false =>
                    go_wp2_with (fail)
                    go_ret
                    exact ⟨by rw [HV.out]; rw [if_neg (show ¬ n1 ≠ f.must by have h := q1; rw [bne_eq_false_iff_eq] at h; omega), if_neg (show ¬ n2 ≠ 0 by have h := q2; rw [bne_eq_false_iff_eq] at h; omega), if_neg (show ¬ (f.acts ≠ 0 ∧ B3 = false) by rw [qB]; exact fun h => by cases h.2), if_neg (show ¬ (B4 = true ∧ x.ty = 0) from fun h => by have := h.2; simp [this] at q5), if_neg (show ¬ (f.nar = true ∧ (narB x.lba && narB x.blk) = false) by rw [qn]; exact fun h => by cases h.1), decide_eq_false (show ¬ (f.lst = 0 ∨ x.want = f.lst) by have h := q6; have h2 := q8; rw [beq_eq_false_iff_ne] at h h2; omega)]; rfl, HB.out⟩
          | false =>
            go_upto_region 9 with (fail)
            have c8 : v3.cell? ⟨p, 8, none⟩ = some (.bool f.nar) := HX.out.cell 8
            have d1 : v3.cell? ⟨p + 1, 1, none⟩ = some (.int .i64 x.lba) := HR.out.cell 1
            have d2 : v3.cell? ⟨p + 1, 2, none⟩ = some (.int .i64 x.blk) := HR.out.cell 2
            cases qn : f.nar with
            | true =>
              go_wp2_with (fail)
              refine (HNA.out x.lba _).mono ?_; rintro e v9 ⟨rfl, rfl⟩
              cases ql : narB x.lba with
              | true =>
                go_wp2_with (fail)
                refine (HNA.out x.blk _).mono ?_; rintro e v9 ⟨rfl, rfl⟩
                cases qb : narB x.blk with
                | true =>
                  clear c8 d1 d2
                  have c15 : v3.cell? ⟨p, 15, none⟩ = some (.int .i64 (f.lst : Int)) := HX.out.cell 15
                  have d5 : v3.cell? ⟨p + 1, 5, none⟩ = some (.int .i64 x.want) := HR.out.cell 5
                  cases q6 : ((f.lst : Int) == 0) with
                  | true =>
                    have q7 : ((f.lst : Int) == 0) = true := q6
                    go_wp2_with (fail)
                    go_ret
                    exact ⟨by rw [HV.out]; rw [if_neg (show ¬ n1 ≠ f.must by have h := q1; rw [bne_eq_false_iff_eq] at h; omega), if_neg (show ¬ n2 ≠ 0 by have h := q2; rw [bne_eq_false_iff_eq] at h; omega), if_neg (show ¬ (f.acts ≠ 0 ∧ B3 = false) by rw [qB]; exact fun h => by cases h.2), if_neg (show ¬ (B4 = true ∧ x.ty = 0) by rw [q4]; exact fun h => by cases h.1), if_neg (show ¬ (f.nar = true ∧ (narB x.lba && narB x.blk) = false) by rw [qn, ql, qb]; exact fun h => by cases h.2), decide_eq_true (show f.lst = 0 ∨ x.want = f.lst from .inl (by have h := q6; rw [beq_iff_eq] at h; omega))]; rfl, HB.out⟩
                  | false =>
                    cases q8 : (x.want == (f.lst : Int)) with
                    | true =>
                      go_wp2_with (fail)
                      go_ret
                      exact ⟨by rw [HV.out]; rw [if_neg (show ¬ n1 ≠ f.must by have h := q1; rw [bne_eq_false_iff_eq] at h; omega), if_neg (show ¬ n2 ≠ 0 by have h := q2; rw [bne_eq_false_iff_eq] at h; omega), if_neg (show ¬ (f.acts ≠ 0 ∧ B3 = false) by rw [qB]; exact fun h => by cases h.2), if_neg (show ¬ (B4 = true ∧ x.ty = 0) by rw [q4]; exact fun h => by cases h.1), if_neg (show ¬ (f.nar = true ∧ (narB x.lba && narB x.blk) = false) by rw [qn, ql, qb]; exact fun h => by cases h.2), decide_eq_true (show f.lst = 0 ∨ x.want = f.lst from .inr (by simpa using q8))]; rfl, HB.out⟩
                    | false =>
                      go_wp2_with (fail)
                      go_ret
                      exact ⟨by rw [HV.out]; rw [if_neg (show ¬ n1 ≠ f.must by have h := q1; rw [bne_eq_false_iff_eq] at h; omega), if_neg (show ¬ n2 ≠ 0 by have h := q2; rw [bne_eq_false_iff_eq] at h; omega), if_neg (show ¬ (f.acts ≠ 0 ∧ B3 = false) by rw [qB]; exact fun h => by cases h.2), if_neg (show ¬ (B4 = true ∧ x.ty = 0) by rw [q4]; exact fun h => by cases h.1), if_neg (show ¬ (f.nar = true ∧ (narB x.lba && narB x.blk) = false) by rw [qn, ql, qb]; exact fun h => by cases h.2), decide_eq_false (show ¬ (f.lst = 0 ∨ x.want = f.lst) by have h := q6; have h2 := q8; rw [beq_eq_false_iff_ne] at h h2; omega)]; rfl, HB.out⟩
                | false =>
                  go_wp2_with (fail)
                  go_ret
                  exact ⟨by rw [HV.out]; rw [if_neg (show ¬ n1 ≠ f.must by have h := q1; rw [bne_eq_false_iff_eq] at h; omega), if_neg (show ¬ n2 ≠ 0 by have h := q2; rw [bne_eq_false_iff_eq] at h; omega), if_neg (show ¬ (f.acts ≠ 0 ∧ B3 = false) by rw [qB]; exact fun h => by cases h.2), if_neg (show ¬ (B4 = true ∧ x.ty = 0) by rw [q4]; exact fun h => by cases h.1), if_pos (show f.nar = true ∧ (narB x.lba && narB x.blk) = false by rw [qn, ql, qb]; exact ⟨rfl, rfl⟩)]; rfl, HB.out⟩
              | false =>
                go_wp2_with (fail)
                go_ret
                exact ⟨by rw [HV.out]; rw [if_neg (show ¬ n1 ≠ f.must by have h := q1; rw [bne_eq_false_iff_eq] at h; omega), if_neg (show ¬ n2 ≠ 0 by have h := q2; rw [bne_eq_false_iff_eq] at h; omega), if_neg (show ¬ (f.acts ≠ 0 ∧ B3 = false) by rw [qB]; exact fun h => by cases h.2), if_neg (show ¬ (B4 = true ∧ x.ty = 0) by rw [q4]; exact fun h => by cases h.1), if_pos (show f.nar = true ∧ (narB x.lba && narB x.blk) = false by rw [qn, ql]; exact ⟨rfl, rfl⟩)]; rfl, HB.out⟩
            | false =>
              go_upto_region 11 with (fail)
              clear c8 d1 d2
              have c15 : v3.cell? ⟨p, 15, none⟩ = some (.int .i64 (f.lst : Int)) := HX.out.cell 15
              have d5 : v3.cell? ⟨p + 1, 5, none⟩ = some (.int .i64 x.want) := HR.out.cell 5
              cases q6 : ((f.lst : Int) == 0) with
              | true =>
                have q7 : ((f.lst : Int) == 0) = true := q6
                go_wp2_with (fail)
                go_ret
                exact ⟨by rw [HV.out]; rw [if_neg (show ¬ n1 ≠ f.must by have h := q1; rw [bne_eq_false_iff_eq] at h; omega), if_neg (show ¬ n2 ≠ 0 by have h := q2; rw [bne_eq_false_iff_eq] at h; omega), if_neg (show ¬ (f.acts ≠ 0 ∧ B3 = false) by rw [qB]; exact fun h => by cases h.2), if_neg (show ¬ (B4 = true ∧ x.ty = 0) by rw [q4]; exact fun h => by cases h.1), if_neg (show ¬ (f.nar = true ∧ (narB x.lba && narB x.blk) = false) by rw [qn]; exact fun h => by cases h.1), decide_eq_true (show f.lst = 0 ∨ x.want = f.lst from .inl (by have h := q6; rw [beq_iff_eq] at h; omega))]; rfl, HB.out⟩
              | false =>
                cases q8 : (x.want == (f.lst : Int)) with
                | true =>
                  go_wp2_with (fail)
                  go_ret
                  exact ⟨by rw [HV.out]; rw [if_neg (show ¬ n1 ≠ f.must by have h := q1; rw [bne_eq_false_iff_eq] at h; omega), if_neg (show ¬ n2 ≠ 0 by have h := q2; rw [bne_eq_false_iff_eq] at h; omega), if_neg (show ¬ (f.acts ≠ 0 ∧ B3 = false) by rw [qB]; exact fun h => by cases h.2), if_neg (show ¬ (B4 = true ∧ x.ty = 0) by rw [q4]; exact fun h => by cases h.1), if_neg (show ¬ (f.nar = true ∧ (narB x.lba && narB x.blk) = false) by rw [qn]; exact fun h => by cases h.1), decide_eq_true (show f.lst = 0 ∨ x.want = f.lst from .inr (by simpa using q8))]; rfl, HB.out⟩
                | false =>
                  go_wp2_with (fail)
                  go_ret
                  exact ⟨by rw [HV.out]; rw [if_neg (show ¬ n1 ≠ f.must by have h := q1; rw [bne_eq_false_iff_eq] at h; omega), if_neg (show ¬ n2 ≠ 0 by have h := q2; rw [bne_eq_false_iff_eq] at h; omega), if_neg (show ¬ (f.acts ≠ 0 ∧ B3 = false) by rw [qB]; exact fun h => by cases h.2), if_neg (show ¬ (B4 = true ∧ x.ty = 0) by rw [q4]; exact fun h => by cases h.1), if_neg (show ¬ (f.nar = true ∧ (narB x.lba && narB x.blk) = false) by rw [qn]; exact fun h => by cases h.1), decide_eq_false (show ¬ (f.lst = 0 ∨ x.want = f.lst) by have h := q6; have h2 := q8; rw [beq_eq_false_iff_ne] at h h2; omega)]; rfl, HB.out⟩
        | false =>
          go_wp2_with (fail)
          go_ret
          exact ⟨by rw [HV.out]; rw [if_neg (show ¬ n1 ≠ f.must by have h := q1; rw [bne_eq_false_iff_eq] at h; omega), if_neg (show ¬ n2 ≠ 0 by have h := q2; rw [bne_eq_false_iff_eq] at h; omega), if_pos (show f.acts ≠ 0 ∧ B3 = false by rw [qB]; exact ⟨by have h := q3; rw [bne_iff_ne] at h; omega, rfl⟩)]; rfl, HB.out⟩
      | false =>
        go_upto_region 7 with (fail)
        clear c12
        have c13 : v1dd.cell? ⟨p, 13, none⟩ = some (.int .u64 (f.typ : Int)) := HX.out.cell 13
        go_wp2_with (fail)
        refine (HB4.out _).mono ?_; rintro e v3 ⟨rfl, hb⟩
        replace HB := Lib.hid (HB.out.trans (hb.mono HB.out.size)); replace HX := Lib.hid (HX.out.below hb HX.out.lt); replace HR := Lib.hid (HR.out.below hb HR.out.lt)
        clear hb
        clear c13
        cases q4 : B4 with
        | true =>
          have d6 : v3.cell? ⟨p + 1, 6, none⟩ = some (.int .i64 x.ty) := HR.out.cell 6
          cases q5 : (x.ty == 0) with
          | true =>
            go_wp2_with (fail)
            go_ret
            exact ⟨by rw [HV.out]; rw [if_neg (show ¬ n1 ≠ f.must by have h := q1; rw [bne_eq_false_iff_eq] at h; omega), if_neg (show ¬ n2 ≠ 0 by have h := q2; rw [bne_eq_false_iff_eq] at h; omega), if_neg (show ¬ (f.acts ≠ 0 ∧ B3 = false) from fun h => by have h2 := q3; rw [bne_eq_false_iff_eq] at h2; omega), if_pos (show B4 = true ∧ x.ty = 0 by rw [q4]; exact ⟨rfl, by simpa using q5⟩)]; rfl, HB.out⟩
          | false =>
            go_upto_region 9 with (fail)
            clear d6
            have c8 : v3.cell? ⟨p, 8, none⟩ = some (.bool f.nar) := HX.out.cell 8
            have d1 : v3.cell? ⟨p + 1, 1, none⟩ = some (.int .i64 x.lba) := HR.out.cell 1
            have d2 : v3.cell? ⟨p + 1, 2, none⟩ = some (.int .i64 x.blk) := HR.out.cell 2
            cases qn : f.nar with
            | true =>
              go_wp2_with (fail)
              refine (HNA.out x.lba _).mono ?_; rintro e v9 ⟨rfl, rfl⟩
              cases ql : narB x.lba with
              | true =>
                go_wp2_with (fail)
                refine (HNA.out x.blk _).mono ?_; rintro e v9 ⟨rfl, rfl⟩
                cases qb : narB x.blk with
                | true =>
                  clear c8 d1 d2
                  have c15 : v3.cell? ⟨p, 15, none⟩ = some (.int .i64 (f.lst : Int)) := HX.out.cell 15
                  have d5 : v3.cell? ⟨p + 1, 5, none⟩ = some (.int .i64 x.want) := HR.out.cell 5
                  cases q6 : ((f.lst : Int) == 0) with
                  | true =>
                    have q7 : ((f.lst : Int) == 0) = true := q6
                    go_wp2_with (fail)
                    go_ret
                    exact ⟨by rw [HV.out]; rw [if_neg (show ¬ n1 ≠ f.must by have h := q1; rw [bne_eq_false_iff_eq] at h; omega), if_neg (show ¬ n2 ≠ 0 by have h := q2; rw [bne_eq_false_iff_eq] at h; omega), if_neg (show ¬ (f.acts ≠ 0 ∧ B3 = false) from fun h => by have h2 := q3; rw [bne_eq_false_iff_eq] at h2; omega), if_neg (show ¬ (B4 = true ∧ x.ty = 0) from fun h => by have := h.2; simp [this] at q5), if_neg (show ¬ (f.nar = true ∧ (narB x.lba && narB x.blk) = false) by rw [qn, ql, qb]; exact fun h => by cases h.2), decide_eq_true (show f.lst = 0 ∨ x.want = f.lst from .inl (by have h := q6; rw [beq_iff_eq] at h; omega))]; rfl, HB.out⟩
                  | false =>
                    cases q8 : (x.want == (f.lst : Int)) with
                    | true =>
                      go_wp2_with (fail)
                      go_ret
                      exact ⟨by rw [HV.out]; rw [if_neg (show ¬ n1 ≠ f.must by have h := q1; rw [bne_eq_false_iff_eq] at h; omega), if_neg (show ¬ n2 ≠ 0 by have h := q2; rw [bne_eq_false_iff_eq] at h; omega), if_neg (show ¬ (f.acts ≠ 0 ∧ B3 = false) from fun h => by have h2 := q3; rw [bne_eq_false_iff_eq] at h2; omega), if_neg (show ¬ (B4 = true ∧ x.ty = 0) from fun h => by have := h.2; simp [this] at q5), if_neg (show ¬ (f.nar = true ∧ (narB x.lba && narB x.blk) = false) by rw [qn, ql, qb]; exact fun h => by cases h.2), decide_eq_true (show f.lst = 0 ∨ x.want = f.lst from .inr (by simpa using q8))]; rfl, HB.out⟩
                    | false =>
                      go_wp2_with (fail)
                      go_ret
                      exact ⟨by rw [HV.out]; rw [if_neg (show ¬ n1 ≠ f.must by have h := q1; rw [bne_eq_false_iff_eq] at h; omega), if_neg (show ¬ n2 ≠ 0 by have h := q2; rw [bne_eq_false_iff_eq] at h; omega), if_neg (show ¬ (f.acts ≠ 0 ∧ B3 = false) from fun h => by have h2 := q3; rw [bne_eq_false_iff_eq] at h2; omega), if_neg (show ¬ (B4 = true ∧ x.ty = 0) from fun h => by have := h.2; simp [this] at q5), if_neg (show ¬ (f.nar = true ∧ (narB x.lba && narB x.blk) = false) by rw [qn, ql, qb]; exact fun h => by cases h.2), decide_eq_false (show ¬ (f.lst = 0 ∨ x.want = f.lst) by have h := q6; have h2 := q8; rw [beq_eq_false_iff_ne] at h h2; omega)]; rfl, HB.out⟩
                | false =>
                  go_wp2_with (fail)
                  go_ret
                  exact ⟨by rw [HV.out]; rw [if_neg (show ¬ n1 ≠ f.must by have h := q1; rw [bne_eq_false_iff_eq] at h; omega), if_neg (show ¬ n2 ≠ 0 by have h := q2; rw [bne_eq_false_iff_eq] at h; omega), if_neg (show ¬ (f.acts ≠ 0 ∧ B3 = false) from fun h => by have h2 := q3; rw [bne_eq_false_iff_eq] at h2; omega), if_neg (show ¬ (B4 = true ∧ x.ty = 0) from fun h => by have := h.2; simp [this] at q5), if_pos (show f.nar = true ∧ (narB x.lba && narB x.blk) = false by rw [qn, ql, qb]; exact ⟨rfl, rfl⟩)]; rfl, HB.out⟩
              | false =>
                go_wp2_with (fail)
                go_ret
                exact ⟨by rw [HV.out]; rw [if_neg (show ¬ n1 ≠ f.must by have h := q1; rw [bne_eq_false_iff_eq] at h; omega), if_neg (show ¬ n2 ≠ 0 by have h := q2; rw [bne_eq_false_iff_eq] at h; omega), if_neg (show ¬ (f.acts ≠ 0 ∧ B3 = false) from fun h => by have h2 := q3; rw [bne_eq_false_iff_eq] at h2; omega), if_neg (show ¬ (B4 = true ∧ x.ty = 0) from fun h => by have := h.2; simp [this] at q5), if_pos (show f.nar = true ∧ (narB x.lba && narB x.blk) = false by rw [qn, ql]; exact ⟨rfl, rfl⟩)]; rfl, HB.out⟩
            | false =>
              go_upto_region 11 with (fail)
              clear c8 d1 d2
              have c15 : v3.cell? ⟨p, 15, none⟩ = some (.int .i64 (f.lst : Int)) := HX.out.cell 15
              have d5 : v3.cell? ⟨p + 1, 5, none⟩ = some (.int .i64 x.want) := HR.out.cell 5
              cases q6 : ((f.lst : Int) == 0) with
              | true =>
                have q7 : ((f.lst : Int) == 0) = true := q6
                go_wp2_with (fail)
                go_ret
                exact ⟨by rw [HV.out]; rw [if_neg (show ¬ n1 ≠ f.must by have h := q1; rw [bne_eq_false_iff_eq] at h; omega), if_neg (show ¬ n2 ≠ 0 by have h := q2; rw [bne_eq_false_iff_eq] at h; omega), if_neg (show ¬ (f.acts ≠ 0 ∧ B3 = false) from fun h => by have h2 := q3; rw [bne_eq_false_iff_eq] at h2; omega), if_neg (show ¬ (B4 = true ∧ x.ty = 0) from fun h => by have := h.2; simp [this] at q5), if_neg (show ¬ (f.nar = true ∧ (narB x.lba && narB x.blk) = false) by rw [qn]; exact fun h => by cases h.1), decide_eq_true (show f.lst = 0 ∨ x.want = f.lst from .inl (by have h := q6; rw [beq_iff_eq] at h; omega))]; rfl, HB.out⟩
              | false =>
                cases q8 : (x.want == (f.lst : Int)) with
                | true =>
                  go_wp2_with (fail)
                  go_ret
                  exact ⟨by rw [HV.out]; rw [if_neg (show ¬ n1 ≠ f.must by have h := q1; rw [bne_eq_false_iff_eq] at h; omega), if_neg (show ¬ n2 ≠ 0 by have h := q2; rw [bne_eq_false_iff_eq] at h; omega), if_neg (show ¬ (f.acts ≠ 0 ∧ B3 = false) from fun h => by have h2 := q3; rw [bne_eq_false_iff_eq] at h2; omega), if_neg (show ¬ (B4 = true ∧ x.ty = 0) from fun h => by have := h.2; simp [this] at q5), if_neg (show ¬ (f.nar = true ∧ (narB x.lba && narB x.blk) = false) by rw [qn]; exact fun h => by cases h.1), decide_eq_true (show f.lst = 0 ∨ x.want = f.lst from .inr (by simpa using q8))]; rfl, HB.out⟩
                | false =>
                  go_wp2_with (fail)
                  go_ret
                  exact ⟨by rw [HV.out]; rw [if_neg (show ¬ n1 ≠ f.must by have h := q1; rw [bne_eq_false_iff_eq] at h; omega), if_neg (show ¬ n2 ≠ 0 by have h := q2; rw [bne_eq_false_iff_eq] at h; omega), if_neg (show ¬ (f.acts ≠ 0 ∧ B3 = false) from fun h => by have h2 := q3; rw [bne_eq_false_iff_eq] at h2; omega), if_neg (show ¬ (B4 = true ∧ x.ty = 0) from fun h => by have := h.2; simp [this] at q5), if_neg (show ¬ (f.nar = true ∧ (narB x.lba && narB x.blk) = false) by rw [qn]; exact fun h => by cases h.1), decide_eq_false (show ¬ (f.lst = 0 ∨ x.want = f.lst) by have h := q6; have h2 := q8; rw [beq_eq_false_iff_ne] at h h2; omega)]; rfl, HB.out⟩
        | false =>
          go_upto_region 9 with (fail)
          have c8 : v3.cell? ⟨p, 8, none⟩ = some (.bool f.nar) := HX.out.cell 8
          have d1 : v3.cell? ⟨p + 1, 1, none⟩ = some (.int .i64 x.lba) := HR.out.cell 1
          have d2 : v3.cell? ⟨p + 1, 2, none⟩ = some (.int .i64 x.blk) := HR.out.cell 2
          cases qn : f.nar with
          | true =>
            go_wp2_with (fail)
            refine (HNA.out x.lba _).mono ?_; rintro e v9 ⟨rfl, rfl⟩
            cases ql : narB x.lba with
            | true =>
              go_wp2_with (fail)
              refine (HNA.out x.blk _).mono ?_; rintro e v9 ⟨rfl, rfl⟩
              cases qb : narB x.blk with
              | true =>
                clear c8 d1 d2
                have c15 : v3.cell? ⟨p, 15, none⟩ = some (.int .i64 (f.lst : Int)) := HX.out.cell 15
                have d5 : v3.cell? ⟨p + 1, 5, none⟩ = some (.int .i64 x.want) := HR.out.cell 5
                cases q6 : ((f.lst : Int) == 0) with
                | true =>
                  have q7 : ((f.lst : Int) == 0) = true := q6
                  go_wp2_with (fail)
                  go_ret
                  exact ⟨by rw [HV.out]; rw [if_neg (show ¬ n1 ≠ f.must by have h := q1; rw [bne_eq_false_iff_eq] at h; omega), if_neg (show ¬ n2 ≠ 0 by have h := q2; rw [bne_eq_false_iff_eq] at h; omega), if_neg (show ¬ (f.acts ≠ 0 ∧ B3 = false) from fun h => by have h2 := q3; rw [bne_eq_false_iff_eq] at h2; omega), if_neg (show ¬ (B4 = true ∧ x.ty = 0) by rw [q4]; exact fun h => by cases h.1), if_neg (show ¬ (f.nar = true ∧ (narB x.lba && narB x.blk) = false) by rw [qn, ql, qb]; exact fun h => by cases h.2), decide_eq_true (show f.lst = 0 ∨ x.want = f.lst from .inl (by have h := q6; rw [beq_iff_eq] at h; omega))]; rfl, HB.out⟩
                | false =>
                  cases q8 : (x.want == (f.lst : Int)) with
                  | true =>
                    go_wp2_with (fail)
                    go_ret
                    exact ⟨by rw [HV.out]; rw [if_neg (show ¬ n1 ≠ f.must by have h := q1; rw [bne_eq_false_iff_eq] at h; omega), if_neg (show ¬ n2 ≠ 0 by have h := q2; rw [bne_eq_false_iff_eq] at h; omega), if_neg (show ¬ (f.acts ≠ 0 ∧ B3 = false) from fun h => by have h2 := q3; rw [bne_eq_false_iff_eq] at h2; omega), if_neg (show ¬ (B4 = true ∧ x.ty = 0) by rw [q4]; exact fun h => by cases h.1), if_neg (show ¬ (f.nar = true ∧ (narB x.lba && narB x.blk) = false) by rw [qn, ql, qb]; exact fun h => by cases h.2), decide_eq_true (show f.lst = 0 ∨ x.want = f.lst from .inr (by simpa using q8))]; rfl, HB.out⟩
                  | false =>
                    go_wp2_with (fail)
                    go_ret
                    exact ⟨by rw [HV.out]; rw [if_neg (show ¬ n1 ≠ f.must by have h := q1; rw [bne_eq_false_iff_eq] at h; omega), if_neg (show ¬ n2 ≠ 0 by have h := q2; rw [bne_eq_false_iff_eq] at h; omega), if_neg (show ¬ (f.acts ≠ 0 ∧ B3 = false) from fun h => by have h2 := q3; rw [bne_eq_false_iff_eq] at h2; omega), if_neg (show ¬ (B4 = true ∧ x.ty = 0) by rw [q4]; exact fun h => by cases h.1), if_neg (show ¬ (f.nar = true ∧ (narB x.lba && narB x.blk) = false) by rw [qn, ql, qb]; exact fun h => by cases h.2), decide_eq_false (show ¬ (f.lst = 0 ∨ x.want = f.lst) by have h := q6; have h2 := q8; rw [beq_eq_false_iff_ne] at h h2; omega)]; rfl, HB.out⟩
              | false =>
                go_wp2_with (fail)
                go_ret
                exact ⟨by rw [HV.out]; rw [if_neg (show ¬ n1 ≠ f.must by have h := q1; rw [bne_eq_false_iff_eq] at h; omega), if_neg (show ¬ n2 ≠ 0 by have h := q2; rw [bne_eq_false_iff_eq] at h; omega), if_neg (show ¬ (f.acts ≠ 0 ∧ B3 = false) from fun h => by have h2 := q3; rw [bne_eq_false_iff_eq] at h2; omega), if_neg (show ¬ (B4 = true ∧ x.ty = 0) by rw [q4]; exact fun h => by cases h.1), if_pos (show f.nar = true ∧ (narB x.lba && narB x.blk) = false by rw [qn, ql, qb]; exact ⟨rfl, rfl⟩)]; rfl, HB.out⟩
            | false =>
              go_wp2_with (fail)
              go_ret
              exact ⟨by rw [HV.out]; rw [if_neg (show ¬ n1 ≠ f.must by have h := q1; rw [bne_eq_false_iff_eq] at h; omega), if_neg (show ¬ n2 ≠ 0 by have h := q2; rw [bne_eq_false_iff_eq] at h; omega), if_neg (show ¬ (f.acts ≠ 0 ∧ B3 = false) from fun h => by have h2 := q3; rw [bne_eq_false_iff_eq] at h2; omega), if_neg (show ¬ (B4 = true ∧ x.ty = 0) by rw [q4]; exact fun h => by cases h.1), if_pos (show f.nar = true ∧ (narB x.lba && narB x.blk) = false by rw [qn, ql]; exact ⟨rfl, rfl⟩)]; rfl, HB.out⟩
          | false =>
            go_upto_region 11 with (fail)
            clear c8 d1 d2
            have c15 : v3.cell? ⟨p, 15, none⟩ = some (.int .i64 (f.lst : Int)) := HX.out.cell 15
            have d5 : v3.cell? ⟨p + 1, 5, none⟩ = some (.int .i64 x.want) := HR.out.cell 5
            cases q6 : ((f.lst : Int) == 0) with
            | true =>
              have q7 : ((f.lst : Int) == 0) = true := q6
              go_wp2_with (fail)
              go_ret
              exact ⟨by rw [HV.out]; rw [if_neg (show ¬ n1 ≠ f.must by have h := q1; rw [bne_eq_false_iff_eq] at h; omega), if_neg (show ¬ n2 ≠ 0 by have h := q2; rw [bne_eq_false_iff_eq] at h; omega), if_neg (show ¬ (f.acts ≠ 0 ∧ B3 = false) from fun h => by have h2 := q3; rw [bne_eq_false_iff_eq] at h2; omega), if_neg (show ¬ (B4 = true ∧ x.ty = 0) by rw [q4]; exact fun h => by cases h.1), if_neg (show ¬ (f.nar = true ∧ (narB x.lba && narB x.blk) = false) by rw [qn]; exact fun h => by cases h.1), decide_eq_true (show f.lst = 0 ∨ x.want = f.lst from .inl (by have h := q6; rw [beq_iff_eq] at h; omega))]; rfl, HB.out⟩
            | false =>
              cases q8 : (x.want == (f.lst : Int)) with
              | true =>
                go_wp2_with (fail)
                go_ret
                exact ⟨by rw [HV.out]; rw [if_neg (show ¬ n1 ≠ f.must by have h := q1; rw [bne_eq_false_iff_eq] at h; omega), if_neg (show ¬ n2 ≠ 0 by have h := q2; rw [bne_eq_false_iff_eq] at h; omega), if_neg (show ¬ (f.acts ≠ 0 ∧ B3 = false) from fun h => by have h2 := q3; rw [bne_eq_false_iff_eq] at h2; omega), if_neg (show ¬ (B4 = true ∧ x.ty = 0) by rw [q4]; exact fun h => by cases h.1), if_neg (show ¬ (f.nar = true ∧ (narB x.lba && narB x.blk) = false) by rw [qn]; exact fun h => by cases h.1), decide_eq_true (show f.lst = 0 ∨ x.want = f.lst from .inr (by simpa using q8))]; rfl, HB.out⟩
              | false =>
                go_wp2_with (fail)
                go_ret
                exact ⟨by rw [HV.out]; rw [if_neg (show ¬ n1 ≠ f.must by have h := q1; rw [bne_eq_false_iff_eq] at h; omega), if_neg (show ¬ n2 ≠ 0 by have h := q2; rw [bne_eq_false_iff_eq] at h; omega), if_neg (show ¬ (f.acts ≠ 0 ∧ B3 = false) from fun h => by have h2 := q3; rw [bne_eq_false_iff_eq] at h2; omega), if_neg (show ¬ (B4 = true ∧ x.ty = 0) by rw [q4]; exact fun h => by cases h.1), if_neg (show ¬ (f.nar = true ∧ (narB x.lba && narB x.blk) = false) by rw [qn]; exact fun h => by cases h.1), decide_eq_false (show ¬ (f.lst = 0 ∨ x.want = f.lst) by have h := q6; have h2 := q8; rw [beq_eq_false_iff_ne] at h h2; omega)]; rfl, HB.out⟩
end Go.Proofs.YtaachlijpgmjeaaDoor
