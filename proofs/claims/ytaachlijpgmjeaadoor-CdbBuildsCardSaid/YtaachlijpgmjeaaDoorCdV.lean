/- What the code reads of a text, by a form. -/
import Derived.Test.YtaachlijpgmjeaaDoorCdU
import Derived.Deep.RegionHeld3
import Derived.Deep.Cut
import Derived.Laws.BitsAllLaws
namespace Go.Proofs.YtaachlijpgmjeaaDoor
open Go.RowKit
/-- What holds of every form. -/
structure Fm.Ok (f : Fm) : Prop where
  first : f.first < 256
  must : f.must < 256
  fua : f.fua < 256
  page : f.page < 256
  emp : f.emp < 256
  acts : f.acts < 18446744073709551616
  typ : f.typ < 18446744073709551616
theorem fm_ok (i : Nat) (hi : i < 14) : (fm i).Ok := by
  have : ∀ i, i < 14 → (fm i).first < 256 ∧ (fm i).must < 256 ∧ (fm i).fua < 256 ∧ (fm i).page < 256 ∧ (fm i).emp < 256 ∧ (fm i).acts < 18446744073709551616 ∧ (fm i).typ < 18446744073709551616 := by decide +kernel
  obtain ⟨h1, h2, h3, h4, h5, h6, h7⟩ := this i hi
  exact ⟨h1, h2, h3, h4, h5, h6, h7⟩
theorem below_only {B : Nat} {S : Nat → Prop} {w w' : World} (h : Only S w w') (hB : B ≤ w.heap.size) (hs : ∀ k, S k → B ≤ k) : Below B w w' :=
  ⟨h.os, h.tape, h.output, h.size, fun k hk => h.block k (by omega) (fun e => absurd (hs k e) (by omega))⟩
theorem read_is {f : Fm} {s : ByteArray} {r1 b2 b3 b4 : Bool} {n2 n3 k5 : Nat} (h3 : n3 = byt s 2 &&& (255 - f.emp)) (h5 : k5 = byt s 1 % 32) (h1 : (!(byt s 1 &&& f.fua == 0)) = r1) (h2 : byt s 1 &&& f.page = n2) (q2 : ((n2 : Int) != 0) = b2) (q3 : ((f.acts : Int) != 0) = b3) (q4 : bitN f.typ k5 = b4) :
    readF f s = ⟨if b3 = true then (256 * (f.first : Int) + (k5 : Int)) else (f.first : Int), nuI s f.la f.ln, nuI s f.ba f.bn, r1, if b2 = true then (256 + (byt s 2 : Int)) else 0, nuI s f.wa f.wn, if b4 = true then typN (n3 : Int) else 0⟩ := by
  unfold readF
  subst h3 h5
  rw [h1, h2, q4]
  congr 1
  · cases h : f.acts with
    | zero => rw [h] at q3; subst q3; rfl
    | succ n => rw [h] at q3; subst q3; rw [if_neg (by omega), if_pos (show (((n + 1 : Nat) : Int) != 0) = true by rw [bne_iff_ne]; omega)]; omega
  · cases n2 with
    | zero => subst q2; rfl
    | succ n => subst q2; rw [if_neg (by omega), if_pos (show (((n + 1 : Nat) : Int) != 0) = true by rw [bne_iff_ne]; omega)]; omega
theorem sh3 {T : Prop} {G : World → Nat → Prop} (F : World → Nat → Prop) (main : (∀ v g, F v g → G v g) → T) (pf : ∀ v g, F v g → G v g) : T := main pf
set_option maxRecDepth 100000 in
set_option maxHeartbeats 4000000 in
theorem read_any (f : Fm) (hf : f.Ok) (s : ByteArray) (w : World) (ht : FT w) (hs : s.size ≤ maxLen) (h3 : 3 ≤ s.size) : Calls Tryd.prog 22 #[fmV f, .string s] w fun e w' => e = .returned (akV (readF f s)) ∧ Below w.heap.size w w' := by
  have HT := Lib.hid ht
  have HN := Lib.hid (fun (a n : Nat) v => number_any s a n v hs)
  have HA := Lib.hid (fun v => action_any s v (by omega))
  have HBN := Lib.hid (fun v => bitN_any f.typ (byt s 1 % 32) v hf.typ (by omega))
  have HTY := Lib.hid (fun (n : Int) v (hv : FT v) => typ_any n v hv)
  have hx1 := fun w => index_byt s 1 1 rfl (by omega) w
  have hx2 := fun w => index_byt s 2 2 rfl (by omega) w
  have l1 := byt_lt s 1
  have l2 := byt_lt s 2
  have hN1 : bits BinOp.and IntKind.u8 (byt s 1 : Int) (f.fua : Int) = ((byt s 1 &&& f.fua : Nat) : Int) := u8_and_nat _ _ l1 hf.fua
  have hN2 : bits BinOp.and IntKind.u8 (byt s 1 : Int) (f.page : Int) = ((byt s 1 &&& f.page : Nat) : Int) := u8_and_nat _ _ l1 hf.page
  have hN3 : bits BinOp.andNot IntKind.u8 (byt s 2 : Int) (f.emp : Int) = ((byt s 2 &&& (255 - f.emp) : Nat) : Int) := u8_andNot_nat _ _ l2 hf.emp
  have HB0 := Lib.hid (((Below.refl w.heap.size w).alloc (Nat.le_refl _) (.cells (fmC f) 51)).alloc (by simp) (.cells (akC zA) 24))
  have HX0 := Lib.hid ((Blk.new w 51 (fmC f)).alloc (.cells (akC zA) 24))
  have HR0 := Lib.hid (show Blk ((w.alloc (.cells (fmC f) 51)).alloc (.cells (akC zA) 24)) (w.heap.size + 1) 24 (akC zA) by
    have := Blk.new (w.alloc (.cells (fmC f) 51)) 24 (akC zA)
    rwa [show (w.alloc (.cells (fmC f) 51)).heap.size = w.heap.size + 1 by simp] at this)
  obtain ⟨n1, hn1⟩ : ∃ n1, n1 = byt s 1 &&& f.fua := ⟨_, rfl⟩
  obtain ⟨n3, hn3⟩ : ∃ n3, n3 = byt s 2 &&& (255 - f.emp) := ⟨_, rfl⟩
  have HF3 := Lib.hid hn3
  rw [← hn3] at hN3
  clear hn3
  obtain ⟨k5, hk5⟩ : ∃ k5, k5 = byt s 1 % 32 := ⟨_, rfl⟩
  have HF5 := Lib.hid hk5
  rw [← hk5] at HA HBN
  have l5 : k5 < 32 := by omega
  have l6 : n3 ≤ byt s 2 := by rw [HF3.out]; exact Nat.and_le_left
  have hw6 : IntKind.i64.wrap (n3 : Int) = (n3 : Int) := IntWalk.i64_in _ (by omega)
  clear hk5
  obtain ⟨n2, hn2⟩ : ∃ n2, n2 = byt s 1 &&& f.page := ⟨_, rfl⟩
  have HF2 := Lib.hid hn2
  rw [← hn2] at hN2
  clear hn2
  obtain ⟨r1, hr1⟩ : ∃ r1, r1 = ((n1 : Int) != 0) := ⟨_, rfl⟩
  have HF1 := Lib.hid (show (!(byt s 1 &&& f.fua == 0)) = r1 by
    rw [hr1, ← hn1]
    cases n1 <;> rfl)
  rw [← hn1] at hN1
  have hq1 : ((n1 : Int) != 0) = r1 := hr1.symm
  clear hn1 hr1
  clear ht
  go_enter Tryd.func22, Tryd.ntmps22
  go_upto_region 1 with (fail)
  change Code.wp _ _ _ _ ((w.alloc (.cells (fmC f) 51)).alloc (.cells (akC zA) 24))
  have HT0 := Lib.hid (ft HT HB0)
  have hsz : (w.alloc (.cells (fmC f) 51)).heap.size = w.heap.size + 1 := by simp
  generalize (w.alloc (.cells (fmC f) 51)).alloc (.cells (akC zA) 24) = v0 at *
  try rw [hsz]
  clear hsz
  obtain ⟨p, hp⟩ : ∃ p, p = w.heap.size := ⟨_, rfl⟩
  have HP := Lib.hid hp
  rw [← hp] at HX0 HR0 ⊢
  clear hp
  apply sh3 (fun v g => Blk v g 24 (akC ⟨(f.first : Int), nuI s f.la f.ln, nuI s f.ba f.bn, r1, 0, nuI s f.wa f.wn, 0⟩) ∧ Blk v p 51 (fmC f) ∧ Blk v (p + 1) 24 (akC zA) ∧ p + 1 < g ∧ Below w.heap.size w v)
  · intro HSH
    refine wp_region_held_drew (S := fun v => Blk v p 51 (fmC f)) (by kernel_rfl) ?_ (fun hHeld => ?_)
    · exact HX0.out.drew
    have HBd := Lib.hid HB0.out.drew; have HXd := Lib.hid HX0.out.drew; have HRd := Lib.hid HR0.out.drew
    generalize v0.drew = x0 at *
    refine takeH (i := 0) (v := ?_) rfl (by kernel_rfl) (by kernel_rfl) (by kernel_rfl) (fun _ _ _ h => h) (some 6) rfl (Or.inl ⟨by rfl, ?_⟩) (by assumption) ?_
    rotate_left 1
    · intro wz hSw
      go_simp
      try with_reducible rfl
    simp only [Act.put, List.setIfInBounds_toArray, List.set_cons_zero, List.set_cons_succ]
    refine takeH (i := 1) (v := ?_) rfl (by kernel_rfl) (by kernel_rfl) (by kernel_rfl) (fun _ _ _ h => h) (some 7) rfl (Or.inl ⟨by rfl, ?_⟩) (by assumption) ?_
    rotate_left 1
    · intro wz hSw
      have c0 : wz.cell? ⟨p, 0, none⟩ = some (.int .i64 ((f.first : Nat) : Int)) := hSw.cell 0
      have c2 : wz.cell? ⟨p, 2, none⟩ = some (.int .i64 (f.la : Int)) := hSw.cell 2
      have c3 : wz.cell? ⟨p, 3, none⟩ = some (.int .i64 (f.ln : Int)) := hSw.cell 3
      have c4 : wz.cell? ⟨p, 4, none⟩ = some (.int .i64 (f.ba : Int)) := hSw.cell 4
      have c5 : wz.cell? ⟨p, 5, none⟩ = some (.int .i64 (f.bn : Int)) := hSw.cell 5
      have c6 : wz.cell? ⟨p, 6, none⟩ = some (.int .i64 (f.wa : Int)) := hSw.cell 6
      have c7 : wz.cell? ⟨p, 7, none⟩ = some (.int .i64 (f.wn : Int)) := hSw.cell 7
      have c10 : wz.cell? ⟨p, 10, none⟩ = some (.int .u8 (f.fua : Int)) := hSw.cell 10
      go_simp
      try with_reducible rfl
    simp only [Act.put, List.setIfInBounds_toArray, List.set_cons_zero, List.set_cons_succ]
    refine takeH (i := 2) (v := ?_) rfl (by kernel_rfl) (by kernel_rfl) (by kernel_rfl) (fun _ _ _ h => h) (some 8) rfl (Or.inl ⟨by rfl, ?_⟩) (by assumption) ?_
    rotate_left 1
    · intro wz hSw
      go_simp
      try with_reducible rfl
    simp only [Act.put, List.setIfInBounds_toArray, List.set_cons_zero, List.set_cons_succ]
    refine takeH (i := 3) (v := ?_) rfl (by kernel_rfl) (by kernel_rfl) (by kernel_rfl) (fun _ _ _ h => h) (some 9) rfl (Or.inl ⟨by rfl, ?_⟩) (by assumption) ?_
    rotate_left 1
    · intro wz hSw
      go_simp
      try with_reducible rfl
    simp only [Act.put, List.setIfInBounds_toArray, List.set_cons_zero, List.set_cons_succ]
    refine takeH (i := 4) (v := ?_) rfl (by kernel_rfl) (by kernel_rfl) (by kernel_rfl) (fun _ _ _ h => h) (some 10) rfl (Or.inl ⟨by rfl, ?_⟩) (by assumption) ?_
    rotate_left 1
    · intro wz hSw
      have c0 : wz.cell? ⟨p, 0, none⟩ = some (.int .i64 ((f.first : Nat) : Int)) := hSw.cell 0
      have c2 : wz.cell? ⟨p, 2, none⟩ = some (.int .i64 (f.la : Int)) := hSw.cell 2
      have c3 : wz.cell? ⟨p, 3, none⟩ = some (.int .i64 (f.ln : Int)) := hSw.cell 3
      have c4 : wz.cell? ⟨p, 4, none⟩ = some (.int .i64 (f.ba : Int)) := hSw.cell 4
      have c5 : wz.cell? ⟨p, 5, none⟩ = some (.int .i64 (f.bn : Int)) := hSw.cell 5
      have c6 : wz.cell? ⟨p, 6, none⟩ = some (.int .i64 (f.wa : Int)) := hSw.cell 6
      have c7 : wz.cell? ⟨p, 7, none⟩ = some (.int .i64 (f.wn : Int)) := hSw.cell 7
      have c10 : wz.cell? ⟨p, 10, none⟩ = some (.int .u8 (f.fua : Int)) := hSw.cell 10
      go_simp
      try with_reducible rfl
    simp only [Act.put, List.setIfInBounds_toArray, List.set_cons_zero, List.set_cons_succ]
    refine takeH (i := 6) (v := ?_) rfl (by kernel_rfl) (by kernel_rfl) (by kernel_rfl) (fun _ _ _ h => h) (some 12) rfl (Or.inl ⟨by rfl, ?_⟩) (by assumption) ?_
    rotate_left 1
    · intro wz hSw
      go_simp
      try with_reducible rfl
    simp only [Act.put, List.setIfInBounds_toArray, List.set_cons_zero, List.set_cons_succ]
    refine takeH (i := 7) (v := ?_) rfl (by kernel_rfl) (by kernel_rfl) (by kernel_rfl) (fun _ _ _ h => h) (some 13) rfl (Or.inl ⟨by rfl, ?_⟩) (by assumption) ?_
    rotate_left 1
    · intro wz hSw
      go_simp
      try with_reducible rfl
    simp only [Act.put, List.setIfInBounds_toArray, List.set_cons_zero, List.set_cons_succ]
    refine takeH (i := 8) (v := ?_) rfl (by kernel_rfl) (by kernel_rfl) (by kernel_rfl) (fun _ _ _ h => h) (some 14) rfl (Or.inl ⟨by rfl, ?_⟩) (by assumption) ?_
    rotate_left 1
    · intro wz hSw
      have c0 : wz.cell? ⟨p, 0, none⟩ = some (.int .i64 ((f.first : Nat) : Int)) := hSw.cell 0
      have c2 : wz.cell? ⟨p, 2, none⟩ = some (.int .i64 (f.la : Int)) := hSw.cell 2
      have c3 : wz.cell? ⟨p, 3, none⟩ = some (.int .i64 (f.ln : Int)) := hSw.cell 3
      have c4 : wz.cell? ⟨p, 4, none⟩ = some (.int .i64 (f.ba : Int)) := hSw.cell 4
      have c5 : wz.cell? ⟨p, 5, none⟩ = some (.int .i64 (f.bn : Int)) := hSw.cell 5
      have c6 : wz.cell? ⟨p, 6, none⟩ = some (.int .i64 (f.wa : Int)) := hSw.cell 6
      have c7 : wz.cell? ⟨p, 7, none⟩ = some (.int .i64 (f.wn : Int)) := hSw.cell 7
      have c10 : wz.cell? ⟨p, 10, none⟩ = some (.int .u8 (f.fua : Int)) := hSw.cell 10
      go_simp
      try with_reducible rfl
    simp only [Act.put, List.setIfInBounds_toArray, List.set_cons_zero, List.set_cons_succ]
    refine takeH (i := 10) (v := ?_) rfl (by kernel_rfl) (by kernel_rfl) (by kernel_rfl) (fun _ _ _ h => h) (some 16) rfl (Or.inl ⟨by rfl, ?_⟩) (by assumption) ?_
    rotate_left 1
    · intro wz hSw
      go_simp
      try with_reducible rfl
    simp only [Act.put, List.setIfInBounds_toArray, List.set_cons_zero, List.set_cons_succ]
    refine takeH (i := 11) (v := ?_) rfl (by kernel_rfl) (by kernel_rfl) (by kernel_rfl) (fun _ _ _ h => h) (some 17) rfl (Or.inl ⟨by rfl, ?_⟩) (by assumption) ?_
    rotate_left 1
    · intro wz hSw
      go_simp
      try with_reducible rfl
    simp only [Act.put, List.setIfInBounds_toArray, List.set_cons_zero, List.set_cons_succ]
    refine takeH (i := 12) (v := ?_) rfl (by kernel_rfl) (by kernel_rfl) (by kernel_rfl) (fun _ _ _ h => h) (some 18) rfl (Or.inl ⟨by rfl, ?_⟩) (by assumption) ?_
    rotate_left 1
    · intro wz hSw
      go_simp
      try with_reducible rfl
    simp only [Act.put, List.setIfInBounds_toArray, List.set_cons_zero, List.set_cons_succ]
    refine takeH (i := 13) (v := ?_) rfl (by kernel_rfl) (by kernel_rfl) (by kernel_rfl) (fun _ _ _ h => h) (some 19) rfl (Or.inl ⟨by rfl, ?_⟩) (by assumption) ?_
    rotate_left 1
    · intro wz hSw
      have c0 : wz.cell? ⟨p, 0, none⟩ = some (.int .i64 ((f.first : Nat) : Int)) := hSw.cell 0
      have c2 : wz.cell? ⟨p, 2, none⟩ = some (.int .i64 (f.la : Int)) := hSw.cell 2
      have c3 : wz.cell? ⟨p, 3, none⟩ = some (.int .i64 (f.ln : Int)) := hSw.cell 3
      have c4 : wz.cell? ⟨p, 4, none⟩ = some (.int .i64 (f.ba : Int)) := hSw.cell 4
      have c5 : wz.cell? ⟨p, 5, none⟩ = some (.int .i64 (f.bn : Int)) := hSw.cell 5
      have c6 : wz.cell? ⟨p, 6, none⟩ = some (.int .i64 (f.wa : Int)) := hSw.cell 6
      have c7 : wz.cell? ⟨p, 7, none⟩ = some (.int .i64 (f.wn : Int)) := hSw.cell 7
      have c10 : wz.cell? ⟨p, 10, none⟩ = some (.int .u8 (f.fua : Int)) := hSw.cell 10
      go_simp
      try with_reducible rfl
    simp only [Act.put, List.setIfInBounds_toArray, List.set_cons_zero, List.set_cons_succ]
    refine takeH (i := 14) (v := ?_) rfl (by kernel_rfl) (by kernel_rfl) (by kernel_rfl) (fun _ _ _ h => h) (some 20) rfl (Or.inl ⟨by rfl, ?_⟩) (by assumption) ?_
    rotate_left 1
    · intro wz hSw
      go_simp
      try with_reducible rfl
    simp only [Act.put, List.setIfInBounds_toArray, List.set_cons_zero, List.set_cons_succ]
    refine takeH (i := 15) (v := ?_) rfl (by kernel_rfl) (by kernel_rfl) (by kernel_rfl) (fun _ _ _ h => h) (some 21) rfl (Or.inl ⟨by rfl, ?_⟩) (by assumption) ?_
    rotate_left 1
    · intro wz hSw
      go_simp
      try with_reducible rfl
    simp only [Act.put, List.setIfInBounds_toArray, List.set_cons_zero, List.set_cons_succ]
    refine takeH (i := 16) (v := ?_) rfl (by kernel_rfl) (by kernel_rfl) (by kernel_rfl) (fun _ _ _ h => h) (some 22) rfl (Or.inl ⟨by rfl, ?_⟩) (by assumption) ?_
    rotate_left 1
    · intro wz hSw
      go_simp
      try with_reducible rfl
    simp only [Act.put, List.setIfInBounds_toArray, List.set_cons_zero, List.set_cons_succ]
    refine takeH (i := 17) (v := ?_) rfl (by kernel_rfl) (by kernel_rfl) (by kernel_rfl) (fun _ _ _ h => h) (some 23) rfl (Or.inl ⟨by rfl, ?_⟩) (by assumption) ?_
    rotate_left 1
    · intro wz hSw
      go_simp
      try with_reducible rfl
    simp only [Act.put, List.setIfInBounds_toArray, List.set_cons_zero, List.set_cons_succ]
    refine takeH (i := 18) (v := ?_) rfl (by kernel_rfl) (by kernel_rfl) (by kernel_rfl) (fun _ _ _ h => h) (some 24) rfl (Or.inl ⟨by rfl, ?_⟩) (by assumption) ?_
    rotate_left 1
    · intro wz hSw
      have c0 : wz.cell? ⟨p, 0, none⟩ = some (.int .i64 ((f.first : Nat) : Int)) := hSw.cell 0
      have c2 : wz.cell? ⟨p, 2, none⟩ = some (.int .i64 (f.la : Int)) := hSw.cell 2
      have c3 : wz.cell? ⟨p, 3, none⟩ = some (.int .i64 (f.ln : Int)) := hSw.cell 3
      have c4 : wz.cell? ⟨p, 4, none⟩ = some (.int .i64 (f.ba : Int)) := hSw.cell 4
      have c5 : wz.cell? ⟨p, 5, none⟩ = some (.int .i64 (f.bn : Int)) := hSw.cell 5
      have c6 : wz.cell? ⟨p, 6, none⟩ = some (.int .i64 (f.wa : Int)) := hSw.cell 6
      have c7 : wz.cell? ⟨p, 7, none⟩ = some (.int .i64 (f.wn : Int)) := hSw.cell 7
      have c10 : wz.cell? ⟨p, 10, none⟩ = some (.int .u8 (f.fua : Int)) := hSw.cell 10
      go_simp
      try with_reducible rfl
    simp only [Act.put, List.setIfInBounds_toArray, List.set_cons_zero, List.set_cons_succ]
    refine wpAnyH_ready (rs := [5, 21]) (by kernel_rfl) (by simp) ?_
    refine AllReadyH.cons rfl (fun KK hKK => ?_) ?_
    · skip
      refine step_call2 (by rfl) 29 (.tmp 8) (.tmp 10) _ (by rfl) _ _ (by rfl) (by rfl) (fun _ _ => rfl) _ (HN.out f.la f.ln x0) (some 11) rfl ?_
      rintro e x1 ⟨rfl, hb⟩
      refine ⟨_, rfl, ?_⟩
      have HBx1 := Lib.hid (HBd.out.trans (hb.mono HBd.out.size))
      have HXx1 := Lib.hid (HXd.out.below hb HXd.out.lt)
      have HRx1 := Lib.hid (HRd.out.below hb HRd.out.lt)
      clear hb
      refine hKK.out _ _ ?_ (fun hHeld => ?_)
      · exact HXx1.out
      clear hKK KK
      simp only [Act.put, List.setIfInBounds_toArray, List.set_cons_zero, List.set_cons_succ]
      refine wpAnyH_ready (rs := [9, 21]) (by kernel_rfl) (by simp) ?_
      refine AllReadyH.cons rfl (fun KK hKK => ?_) ?_
      · skip
        refine step_call2 (by rfl) 29 (.tmp 12) (.tmp 14) _ (by rfl) _ _ (by rfl) (by rfl) (fun _ _ => rfl) _ (HN.out f.ba f.bn x1) (some 15) rfl ?_
        rintro e x2 ⟨rfl, hb⟩
        refine ⟨_, rfl, ?_⟩
        have HBx2 := Lib.hid (HBx1.out.trans (hb.mono HBx1.out.size))
        have HXx2 := Lib.hid (HXx1.out.below hb HXx1.out.lt)
        have HRx2 := Lib.hid (HRx1.out.below hb HRx1.out.lt)
        clear hb
        refine hKK.out _ _ ?_ (fun hHeld => ?_)
        · exact HXx2.out
        clear hKK KK
        simp only [Act.put, List.setIfInBounds_toArray, List.set_cons_zero, List.set_cons_succ]
        refine wpAnyH_ready (rs := [19, 21]) (by kernel_rfl) (by simp) ?_
        refine AllReadyH.cons rfl (fun KK hKK => ?_) ?_
        · skip
          refine step_call2 (by rfl) 29 (.tmp 22) (.tmp 24) _ (by rfl) _ _ (by rfl) (by rfl) (fun _ _ => rfl) _ (HN.out f.wa f.wn x2) (some 25) rfl ?_
          rintro e x3 ⟨rfl, hb⟩
          refine ⟨_, rfl, ?_⟩
          have HBx3 := Lib.hid (HBx2.out.trans (hb.mono HBx2.out.size))
          have HXx3 := Lib.hid (HXx2.out.below hb HXx2.out.lt)
          have HRx3 := Lib.hid (HRx2.out.below hb HRx2.out.lt)
          clear hb
          refine hKK.out _ _ ?_ (fun hHeld => ?_)
          · exact HXx3.out
          clear hKK KK
          simp only [Act.put, List.setIfInBounds_toArray, List.set_cons_zero, List.set_cons_succ]
          refine takeH (i := 20) (v := ?_) rfl (by kernel_rfl) (by kernel_rfl) (by kernel_rfl) (fun _ _ _ h => h) (some 26) rfl (Or.inl ⟨by rfl, ?_⟩) (by assumption) ?_
          rotate_left 1
          · intro wz hSw
            go_simp
            try with_reducible rfl
          simp only [Act.put, List.setIfInBounds_toArray, List.set_cons_zero, List.set_cons_succ]
          refine wpAnyH_ready (rs := [21]) (by kernel_rfl) (by simp) ?_
          refine AllReadyH.cons rfl (fun KK hKK => ?_) AllReadyH.nil
          refine step_alloc (by rfl) (.pointer (some ⟨x3.heap.size, 0, none⟩)) (x3.alloc (.cells (akC zA) 24)) (by kernel_rfl) (some 5) rfl ?_
          refine hKK.out _ _ ?_ (fun hHeld => ?_)
          · exact (HXx3.out.alloc _)
          clear hKK KK
          simp only [Act.put, List.setIfInBounds_toArray, List.set_cons_zero, List.set_cons_succ]
          change wpAnyH _ _ _ _ _ _ _ _ (x3.alloc (.cells (akC zA) 24))
          have hb := (Below.refl x3.heap.size x3).alloc (Nat.le_refl _) (.cells (akC zA) 24)
          have HYx4 := Lib.hid (Blk.new x3 24 (akC zA))
          have HBx4 := Lib.hid (HBx3.out.trans (hb.mono HBx3.out.size))
          have HXx4 := Lib.hid (HXx3.out.below hb HXx3.out.lt)
          have HRx4 := Lib.hid (HRx3.out.below hb HRx3.out.lt)
          clear hb
          generalize x3.alloc (.cells (akC zA) 24) = x4 at *
          obtain ⟨gA, hg⟩ : ∃ g, g = x3.heap.size := ⟨_, rfl⟩
          have hgp : p + 1 < gA := by rw [hg]; exact HRx3.out.lt
          rw [← hg] at HYx4 ⊢; clear hg
          refine wpAnyH_ready (rs := [22]) (by kernel_rfl) (by simp) ?_
          refine AllReadyH.cons rfl (fun KK hKK => ?_) AllReadyH.nil
          refine step_store (by rfl) 24 (.tmp 5) (.tmp 26) (by rfl) gA (akC ⟨(f.first : Int), nuI s f.la f.ln, nuI s f.ba f.bn, r1, 0, nuI s f.wa f.wn, 0⟩) (by rfl) (by rfl) 24 (akC zA) HYx4.out sizeA rfl (by simp [Value.oneCell']) none rfl (fun vz hvz hoz => ?_)
          refine hKK.out _ _ (HXx4.out.only hoz (by omega)) (fun hHeld => ?_)
          clear hKK KK hHeld
          refine wpAnyH_done (by kernel_rfl) ?_ _
          have hpw := HP.out
          exact HSH vz gA ⟨hvz, HXx4.out.only hoz (by omega), HRx4.out.only hoz (by omega), hgp, HBx4.out.trans (below_only hoz HBx4.out.size (by rintro k rfl; omega))⟩
        refine AllReadyH.cons rfl (fun KK hKK => ?_) ?_
        · skip
          refine step_alloc (by rfl) (.pointer (some ⟨x2.heap.size, 0, none⟩)) (x2.alloc (.cells (akC zA) 24)) (by kernel_rfl) (some 5) rfl ?_
          refine hKK.out _ _ ?_ (fun hHeld => ?_)
          · exact (HXx2.out.alloc _)
          clear hKK KK
          simp only [Act.put, List.setIfInBounds_toArray, List.set_cons_zero, List.set_cons_succ]
          change wpAnyH _ _ _ _ _ _ _ _ (x2.alloc (.cells (akC zA) 24))
          have hb := (Below.refl x2.heap.size x2).alloc (Nat.le_refl _) (.cells (akC zA) 24)
          have HYx5 := Lib.hid (Blk.new x2 24 (akC zA))
          have HBx5 := Lib.hid (HBx2.out.trans (hb.mono HBx2.out.size))
          have HXx5 := Lib.hid (HXx2.out.below hb HXx2.out.lt)
          have HRx5 := Lib.hid (HRx2.out.below hb HRx2.out.lt)
          clear hb
          generalize x2.alloc (.cells (akC zA) 24) = x5 at *
          obtain ⟨gA, hg⟩ : ∃ g, g = x2.heap.size := ⟨_, rfl⟩
          have hgp : p + 1 < gA := by rw [hg]; exact HRx2.out.lt
          rw [← hg] at HYx5 ⊢; clear hg
          refine wpAnyH_ready (rs := [19]) (by kernel_rfl) (by simp) ?_
          refine AllReadyH.cons rfl (fun KK hKK => ?_) AllReadyH.nil
          refine step_call2 (by rfl) 29 (.tmp 22) (.tmp 24) _ (by rfl) _ _ (by rfl) (by rfl) (fun _ _ => rfl) _ (HN.out f.wa f.wn x5) (some 25) rfl ?_
          rintro e x6 ⟨rfl, hb⟩
          refine ⟨_, rfl, ?_⟩
          have HBx6 := Lib.hid (HBx5.out.trans (hb.mono HBx5.out.size))
          have HXx6 := Lib.hid (HXx5.out.below hb HXx5.out.lt)
          have HRx6 := Lib.hid (HRx5.out.below hb HRx5.out.lt)
          have HYx6 := Lib.hid (HYx5.out.below hb HYx5.out.lt)
          clear hb
          refine hKK.out _ _ ?_ (fun hHeld => ?_)
          · exact HXx6.out
          clear hKK KK
          simp only [Act.put, List.setIfInBounds_toArray, List.set_cons_zero, List.set_cons_succ]
          refine takeH (i := 20) (v := ?_) rfl (by kernel_rfl) (by kernel_rfl) (by kernel_rfl) (fun _ _ _ h => h) (some 26) rfl (Or.inl ⟨by rfl, ?_⟩) (by assumption) ?_
          rotate_left 1
          · intro wz hSw
            go_simp
            try with_reducible rfl
          simp only [Act.put, List.setIfInBounds_toArray, List.set_cons_zero, List.set_cons_succ]
          refine wpAnyH_ready (rs := [22]) (by kernel_rfl) (by simp) ?_
          refine AllReadyH.cons rfl (fun KK hKK => ?_) AllReadyH.nil
          refine step_store (by rfl) 24 (.tmp 5) (.tmp 26) (by rfl) gA (akC ⟨(f.first : Int), nuI s f.la f.ln, nuI s f.ba f.bn, r1, 0, nuI s f.wa f.wn, 0⟩) (by rfl) (by rfl) 24 (akC zA) HYx6.out sizeA rfl (by simp [Value.oneCell']) none rfl (fun vz hvz hoz => ?_)
          refine hKK.out _ _ (HXx6.out.only hoz (by omega)) (fun hHeld => ?_)
          clear hKK KK hHeld
          refine wpAnyH_done (by kernel_rfl) ?_ _
          have hpw := HP.out
          exact HSH vz gA ⟨hvz, HXx6.out.only hoz (by omega), HRx6.out.only hoz (by omega), hgp, HBx6.out.trans (below_only hoz HBx6.out.size (by rintro k rfl; omega))⟩
        exact AllReadyH.nil
      refine AllReadyH.cons rfl (fun KK hKK => ?_) ?_
      · skip
        refine step_alloc (by rfl) (.pointer (some ⟨x1.heap.size, 0, none⟩)) (x1.alloc (.cells (akC zA) 24)) (by kernel_rfl) (some 5) rfl ?_
        refine hKK.out _ _ ?_ (fun hHeld => ?_)
        · exact (HXx1.out.alloc _)
        clear hKK KK
        simp only [Act.put, List.setIfInBounds_toArray, List.set_cons_zero, List.set_cons_succ]
        change wpAnyH _ _ _ _ _ _ _ _ (x1.alloc (.cells (akC zA) 24))
        have hb := (Below.refl x1.heap.size x1).alloc (Nat.le_refl _) (.cells (akC zA) 24)
        have HYx7 := Lib.hid (Blk.new x1 24 (akC zA))
        have HBx7 := Lib.hid (HBx1.out.trans (hb.mono HBx1.out.size))
        have HXx7 := Lib.hid (HXx1.out.below hb HXx1.out.lt)
        have HRx7 := Lib.hid (HRx1.out.below hb HRx1.out.lt)
        clear hb
        generalize x1.alloc (.cells (akC zA) 24) = x7 at *
        obtain ⟨gA, hg⟩ : ∃ g, g = x1.heap.size := ⟨_, rfl⟩
        have hgp : p + 1 < gA := by rw [hg]; exact HRx1.out.lt
        rw [← hg] at HYx7 ⊢; clear hg
        refine wpAnyH_ready (rs := [9]) (by kernel_rfl) (by simp) ?_
        refine AllReadyH.cons rfl (fun KK hKK => ?_) AllReadyH.nil
        refine step_call2 (by rfl) 29 (.tmp 12) (.tmp 14) _ (by rfl) _ _ (by rfl) (by rfl) (fun _ _ => rfl) _ (HN.out f.ba f.bn x7) (some 15) rfl ?_
        rintro e x8 ⟨rfl, hb⟩
        refine ⟨_, rfl, ?_⟩
        have HBx8 := Lib.hid (HBx7.out.trans (hb.mono HBx7.out.size))
        have HXx8 := Lib.hid (HXx7.out.below hb HXx7.out.lt)
        have HRx8 := Lib.hid (HRx7.out.below hb HRx7.out.lt)
        have HYx8 := Lib.hid (HYx7.out.below hb HYx7.out.lt)
        clear hb
        refine hKK.out _ _ ?_ (fun hHeld => ?_)
        · exact HXx8.out
        clear hKK KK
        simp only [Act.put, List.setIfInBounds_toArray, List.set_cons_zero, List.set_cons_succ]
        refine wpAnyH_ready (rs := [19]) (by kernel_rfl) (by simp) ?_
        refine AllReadyH.cons rfl (fun KK hKK => ?_) AllReadyH.nil
        refine step_call2 (by rfl) 29 (.tmp 22) (.tmp 24) _ (by rfl) _ _ (by rfl) (by rfl) (fun _ _ => rfl) _ (HN.out f.wa f.wn x8) (some 25) rfl ?_
        rintro e x9 ⟨rfl, hb⟩
        refine ⟨_, rfl, ?_⟩
        have HBx9 := Lib.hid (HBx8.out.trans (hb.mono HBx8.out.size))
        have HXx9 := Lib.hid (HXx8.out.below hb HXx8.out.lt)
        have HRx9 := Lib.hid (HRx8.out.below hb HRx8.out.lt)
        have HYx9 := Lib.hid (HYx8.out.below hb HYx8.out.lt)
        clear hb
        refine hKK.out _ _ ?_ (fun hHeld => ?_)
        · exact HXx9.out
        clear hKK KK
        simp only [Act.put, List.setIfInBounds_toArray, List.set_cons_zero, List.set_cons_succ]
        refine takeH (i := 20) (v := ?_) rfl (by kernel_rfl) (by kernel_rfl) (by kernel_rfl) (fun _ _ _ h => h) (some 26) rfl (Or.inl ⟨by rfl, ?_⟩) (by assumption) ?_
        rotate_left 1
        · intro wz hSw
          go_simp
          try with_reducible rfl
        simp only [Act.put, List.setIfInBounds_toArray, List.set_cons_zero, List.set_cons_succ]
        refine wpAnyH_ready (rs := [22]) (by kernel_rfl) (by simp) ?_
        refine AllReadyH.cons rfl (fun KK hKK => ?_) AllReadyH.nil
        refine step_store (by rfl) 24 (.tmp 5) (.tmp 26) (by rfl) gA (akC ⟨(f.first : Int), nuI s f.la f.ln, nuI s f.ba f.bn, r1, 0, nuI s f.wa f.wn, 0⟩) (by rfl) (by rfl) 24 (akC zA) HYx9.out sizeA rfl (by simp [Value.oneCell']) none rfl (fun vz hvz hoz => ?_)
        refine hKK.out _ _ (HXx9.out.only hoz (by omega)) (fun hHeld => ?_)
        clear hKK KK hHeld
        refine wpAnyH_done (by kernel_rfl) ?_ _
        have hpw := HP.out
        exact HSH vz gA ⟨hvz, HXx9.out.only hoz (by omega), HRx9.out.only hoz (by omega), hgp, HBx9.out.trans (below_only hoz HBx9.out.size (by rintro k rfl; omega))⟩
      exact AllReadyH.nil
    refine AllReadyH.cons rfl (fun KK hKK => ?_) ?_
    · skip
      refine step_alloc (by rfl) (.pointer (some ⟨x0.heap.size, 0, none⟩)) (x0.alloc (.cells (akC zA) 24)) (by kernel_rfl) (some 5) rfl ?_
      refine hKK.out _ _ ?_ (fun hHeld => ?_)
      · exact (HXd.out.alloc _)
      clear hKK KK
      simp only [Act.put, List.setIfInBounds_toArray, List.set_cons_zero, List.set_cons_succ]
      change wpAnyH _ _ _ _ _ _ _ _ (x0.alloc (.cells (akC zA) 24))
      have hb := (Below.refl x0.heap.size x0).alloc (Nat.le_refl _) (.cells (akC zA) 24)
      have HYx10 := Lib.hid (Blk.new x0 24 (akC zA))
      have HBx10 := Lib.hid (HBd.out.trans (hb.mono HBd.out.size))
      have HXx10 := Lib.hid (HXd.out.below hb HXd.out.lt)
      have HRx10 := Lib.hid (HRd.out.below hb HRd.out.lt)
      clear hb
      generalize x0.alloc (.cells (akC zA) 24) = x10 at *
      obtain ⟨gA, hg⟩ : ∃ g, g = x0.heap.size := ⟨_, rfl⟩
      have hgp : p + 1 < gA := by rw [hg]; exact HRd.out.lt
      rw [← hg] at HYx10 ⊢; clear hg
      refine wpAnyH_ready (rs := [5]) (by kernel_rfl) (by simp) ?_
      refine AllReadyH.cons rfl (fun KK hKK => ?_) AllReadyH.nil
      refine step_call2 (by rfl) 29 (.tmp 8) (.tmp 10) _ (by rfl) _ _ (by rfl) (by rfl) (fun _ _ => rfl) _ (HN.out f.la f.ln x10) (some 11) rfl ?_
      rintro e x11 ⟨rfl, hb⟩
      refine ⟨_, rfl, ?_⟩
      have HBx11 := Lib.hid (HBx10.out.trans (hb.mono HBx10.out.size))
      have HXx11 := Lib.hid (HXx10.out.below hb HXx10.out.lt)
      have HRx11 := Lib.hid (HRx10.out.below hb HRx10.out.lt)
      have HYx11 := Lib.hid (HYx10.out.below hb HYx10.out.lt)
      clear hb
      refine hKK.out _ _ ?_ (fun hHeld => ?_)
      · exact HXx11.out
      clear hKK KK
      simp only [Act.put, List.setIfInBounds_toArray, List.set_cons_zero, List.set_cons_succ]
      refine wpAnyH_ready (rs := [9]) (by kernel_rfl) (by simp) ?_
      refine AllReadyH.cons rfl (fun KK hKK => ?_) AllReadyH.nil
      refine step_call2 (by rfl) 29 (.tmp 12) (.tmp 14) _ (by rfl) _ _ (by rfl) (by rfl) (fun _ _ => rfl) _ (HN.out f.ba f.bn x11) (some 15) rfl ?_
      rintro e x12 ⟨rfl, hb⟩
      refine ⟨_, rfl, ?_⟩
      have HBx12 := Lib.hid (HBx11.out.trans (hb.mono HBx11.out.size))
      have HXx12 := Lib.hid (HXx11.out.below hb HXx11.out.lt)
      have HRx12 := Lib.hid (HRx11.out.below hb HRx11.out.lt)
      have HYx12 := Lib.hid (HYx11.out.below hb HYx11.out.lt)
      clear hb
      refine hKK.out _ _ ?_ (fun hHeld => ?_)
      · exact HXx12.out
      clear hKK KK
      simp only [Act.put, List.setIfInBounds_toArray, List.set_cons_zero, List.set_cons_succ]
      refine wpAnyH_ready (rs := [19]) (by kernel_rfl) (by simp) ?_
      refine AllReadyH.cons rfl (fun KK hKK => ?_) AllReadyH.nil
      refine step_call2 (by rfl) 29 (.tmp 22) (.tmp 24) _ (by rfl) _ _ (by rfl) (by rfl) (fun _ _ => rfl) _ (HN.out f.wa f.wn x12) (some 25) rfl ?_
      rintro e x13 ⟨rfl, hb⟩
      refine ⟨_, rfl, ?_⟩
      have HBx13 := Lib.hid (HBx12.out.trans (hb.mono HBx12.out.size))
      have HXx13 := Lib.hid (HXx12.out.below hb HXx12.out.lt)
      have HRx13 := Lib.hid (HRx12.out.below hb HRx12.out.lt)
      have HYx13 := Lib.hid (HYx12.out.below hb HYx12.out.lt)
      clear hb
      refine hKK.out _ _ ?_ (fun hHeld => ?_)
      · exact HXx13.out
      clear hKK KK
      simp only [Act.put, List.setIfInBounds_toArray, List.set_cons_zero, List.set_cons_succ]
      refine takeH (i := 20) (v := ?_) rfl (by kernel_rfl) (by kernel_rfl) (by kernel_rfl) (fun _ _ _ h => h) (some 26) rfl (Or.inl ⟨by rfl, ?_⟩) (by assumption) ?_
      rotate_left 1
      · intro wz hSw
        go_simp
        try with_reducible rfl
      simp only [Act.put, List.setIfInBounds_toArray, List.set_cons_zero, List.set_cons_succ]
      refine wpAnyH_ready (rs := [22]) (by kernel_rfl) (by simp) ?_
      refine AllReadyH.cons rfl (fun KK hKK => ?_) AllReadyH.nil
      refine step_store (by rfl) 24 (.tmp 5) (.tmp 26) (by rfl) gA (akC ⟨(f.first : Int), nuI s f.la f.ln, nuI s f.ba f.bn, r1, 0, nuI s f.wa f.wn, 0⟩) (by rfl) (by rfl) 24 (akC zA) HYx13.out sizeA rfl (by simp [Value.oneCell']) none rfl (fun vz hvz hoz => ?_)
      refine hKK.out _ _ (HXx13.out.only hoz (by omega)) (fun hHeld => ?_)
      clear hKK KK hHeld
      refine wpAnyH_done (by kernel_rfl) ?_ _
      have hpw := HP.out
      exact HSH vz gA ⟨hvz, HXx13.out.only hoz (by omega), HRx13.out.only hoz (by omega), hgp, HBx13.out.trans (below_only hoz HBx13.out.size (by rintro k rfl; omega))⟩
    exact AllReadyH.nil
  rintro v2 g ⟨hY, hX, hR, hgp, hB⟩
  have HY := Lib.hid hY; have HX := Lib.hid hX; have HR := Lib.hid hR; have HB := Lib.hid hB; have HG := Lib.hid hgp
  clear hY hX hR hgp hB
  have hw2 : IntKind.i64.wrap (byt s 2 : Int) = (byt s 2 : Int) := IntWalk.i64_in _ (by omega)
  have hw3 : IntKind.i64.wrap (256 + (byt s 2 : Int)) = 256 + (byt s 2 : Int) := IntWalk.i64_in _ (by omega)
  have hw4 : IntKind.i64.wrap (256 * (f.first : Int)) = 256 * (f.first : Int) := IntWalk.i64_in _ (by have := hf.first; omega)
  have hw5 : IntKind.i64.wrap (256 * (f.first : Int) + (k5 : Int)) = 256 * (f.first : Int) + (k5 : Int) := IntWalk.i64_in _ (by have := hf.first; omega)
  cases q2 : ((n2 : Int) != 0) with
  | true =>
    cases q3 : ((f.acts : Int) != 0) with
    | true =>
      go_upto_region 2 with (fail)
      refine wp_region_held_drew (S := fun v => Blk v p 51 (fmC f)) (by kernel_rfl) ?_ (fun hHeld => ?_)
      · exact HX.out.drew
      replace HB := Lib.hid HB.out.drew; replace HX := Lib.hid HX.out.drew; replace HR := Lib.hid HR.out.drew; replace HY := Lib.hid HY.out.drew
      generalize v2.drew = v2d at *
      refine takeH (i := 0) (v := ?_) rfl (by kernel_rfl) (by kernel_rfl) (by kernel_rfl) (fun _ _ _ h => h) (some 27) rfl (Or.inl ⟨by rfl, ?_⟩) (by assumption) ?_
      rotate_left 1
      · intro wz hSw
        go_simp
        try with_reducible rfl
      simp only [Act.put, List.setIfInBounds_toArray, List.set_cons_zero, List.set_cons_succ]
      refine takeH (i := 1) (v := ?_) rfl (by kernel_rfl) (by kernel_rfl) (by kernel_rfl) (fun _ _ _ h => h) (some 28) rfl (Or.inl ⟨by rfl, ?_⟩) (by assumption) ?_
      rotate_left 1
      · intro wz hSw
        go_simp
        try with_reducible rfl
      simp only [Act.put, List.setIfInBounds_toArray, List.set_cons_zero, List.set_cons_succ]
      refine takeH (i := 2) (v := ?_) rfl (by kernel_rfl) (by kernel_rfl) (by kernel_rfl) (fun _ _ _ h => h) (some 29) rfl (Or.inl ⟨by rfl, ?_⟩) (by assumption) ?_
      rotate_left 1
      · intro wz hSw
        go_simp
        try with_reducible rfl
      simp only [Act.put, List.setIfInBounds_toArray, List.set_cons_zero, List.set_cons_succ]
      refine takeH (i := 3) (v := ?_) rfl (by kernel_rfl) (by kernel_rfl) (by kernel_rfl) (fun _ _ _ h => h) (some 30) rfl (Or.inl ⟨by rfl, ?_⟩) (by assumption) ?_
      rotate_left 1
      · intro wz hSw
        have c0 : wz.cell? ⟨p, 0, none⟩ = some (.int .i64 ((f.first : Nat) : Int)) := hSw.cell 0
        have c2 : wz.cell? ⟨p, 2, none⟩ = some (.int .i64 (f.la : Int)) := hSw.cell 2
        have c3 : wz.cell? ⟨p, 3, none⟩ = some (.int .i64 (f.ln : Int)) := hSw.cell 3
        have c4 : wz.cell? ⟨p, 4, none⟩ = some (.int .i64 (f.ba : Int)) := hSw.cell 4
        have c5 : wz.cell? ⟨p, 5, none⟩ = some (.int .i64 (f.bn : Int)) := hSw.cell 5
        have c6 : wz.cell? ⟨p, 6, none⟩ = some (.int .i64 (f.wa : Int)) := hSw.cell 6
        have c7 : wz.cell? ⟨p, 7, none⟩ = some (.int .i64 (f.wn : Int)) := hSw.cell 7
        have c10 : wz.cell? ⟨p, 10, none⟩ = some (.int .u8 (f.fua : Int)) := hSw.cell 10
        have c11 : wz.cell? ⟨p, 11, none⟩ = some (.int .u8 (f.page : Int)) := hSw.cell 11
        have c12 : wz.cell? ⟨p, 12, none⟩ = some (.int .u64 (f.acts : Int)) := hSw.cell 12
        have c13 : wz.cell? ⟨p, 13, none⟩ = some (.int .u64 (f.typ : Int)) := hSw.cell 13
        have c14 : wz.cell? ⟨p, 14, none⟩ = some (.int .u8 (f.emp : Int)) := hSw.cell 14
        go_simp
        try with_reducible rfl
      simp only [Act.put, List.setIfInBounds_toArray, List.set_cons_zero, List.set_cons_succ]
      refine takeH (i := 4) (v := ?_) rfl (by kernel_rfl) (by kernel_rfl) (by kernel_rfl) (fun _ _ _ h => h) (some 31) rfl (Or.inl ⟨by rfl, ?_⟩) (by assumption) ?_
      rotate_left 1
      · intro wz hSw
        go_simp
        try with_reducible rfl
      simp only [Act.put, List.setIfInBounds_toArray, List.set_cons_zero, List.set_cons_succ]
      refine takeH (i := 5) (v := ?_) rfl (by kernel_rfl) (by kernel_rfl) (by kernel_rfl) (fun _ _ _ h => h) (some 32) rfl (Or.inl ⟨by rfl, ?_⟩) (by assumption) ?_
      rotate_left 1
      · intro wz hSw
        go_simp
        try with_reducible rfl
      simp only [Act.put, List.setIfInBounds_toArray, List.set_cons_zero, List.set_cons_succ]
      refine wpAnyH_done (by kernel_rfl) ?_ _
      clear hHeld
      have d4 : v2d.cell? ⟨g, 4, none⟩ = some (.int .i64 0) := HY.out.cell 4
      have e4 := HY.out.free 4
      go_upto_region 4 with (fail)
      clear d4 e4
      have HY1 := HY.out.put 4 (.int .i64 (256 + (byt s 2 : Int)))
      replace HX := Lib.hid (HX.out.far (p := ⟨g, 4, none⟩) (by have := HG.out; dsimp only; omega) (.int .i64 (256 + (byt s 2 : Int))))
      replace HR := Lib.hid (HR.out.far (p := ⟨g, 4, none⟩) (by have := HG.out; dsimp only; omega) (.int .i64 (256 + (byt s 2 : Int))))
      replace HB := Lib.hid (HB.out.setCell (p := ⟨g, 4, none⟩) (by have := HG.out; have := HP.out; dsimp only; omega) (.int .i64 (256 + (byt s 2 : Int))))
      generalize v2d.setCell ⟨g, 4, none⟩ (.int .i64 (256 + (byt s 2 : Int))) = vn at *
      replace HY := Lib.hid (show Blk vn g 24 (akC ⟨(f.first : Int), nuI s f.la f.ln, nuI s f.ba f.bn, r1, (256 + (byt s 2 : Int)), nuI s f.wa f.wn, (0 : Int)⟩) from HY1)
      clear HY1
      have c12 : vn.cell? ⟨p, 12, none⟩ = some (.int .u64 (f.acts : Int)) := HX.out.cell 12
      go_upto_region 5 with (fail)
      clear c12
      refine wp_region_held_drew (S := fun v => Blk v p 51 (fmC f)) (by kernel_rfl) ?_ (fun hHeld => ?_)
      · exact HX.out.drew
      replace HB := Lib.hid HB.out.drew; replace HX := Lib.hid HX.out.drew; replace HR := Lib.hid HR.out.drew; replace HY := Lib.hid HY.out.drew
      generalize vn.drew = vnd at *
      refine takeH (i := 0) (v := ?_) rfl (by kernel_rfl) (by kernel_rfl) (by kernel_rfl) (fun _ _ _ h => h) (some 41) rfl (Or.inl ⟨by rfl, ?_⟩) (by assumption) ?_
      rotate_left 1
      · intro wz hSw
        go_simp
        try with_reducible rfl
      simp only [Act.put, List.setIfInBounds_toArray, List.set_cons_zero, List.set_cons_succ]
      refine takeH (i := 1) (v := ?_) rfl (by kernel_rfl) (by kernel_rfl) (by kernel_rfl) (fun _ _ _ h => h) (some 42) rfl (Or.inl ⟨by rfl, ?_⟩) (by assumption) ?_
      rotate_left 1
      · intro wz hSw
        have c0 : wz.cell? ⟨p, 0, none⟩ = some (.int .i64 ((f.first : Nat) : Int)) := hSw.cell 0
        have c2 : wz.cell? ⟨p, 2, none⟩ = some (.int .i64 (f.la : Int)) := hSw.cell 2
        have c3 : wz.cell? ⟨p, 3, none⟩ = some (.int .i64 (f.ln : Int)) := hSw.cell 3
        have c4 : wz.cell? ⟨p, 4, none⟩ = some (.int .i64 (f.ba : Int)) := hSw.cell 4
        have c5 : wz.cell? ⟨p, 5, none⟩ = some (.int .i64 (f.bn : Int)) := hSw.cell 5
        have c6 : wz.cell? ⟨p, 6, none⟩ = some (.int .i64 (f.wa : Int)) := hSw.cell 6
        have c7 : wz.cell? ⟨p, 7, none⟩ = some (.int .i64 (f.wn : Int)) := hSw.cell 7
        have c10 : wz.cell? ⟨p, 10, none⟩ = some (.int .u8 (f.fua : Int)) := hSw.cell 10
        have c11 : wz.cell? ⟨p, 11, none⟩ = some (.int .u8 (f.page : Int)) := hSw.cell 11
        have c12 : wz.cell? ⟨p, 12, none⟩ = some (.int .u64 (f.acts : Int)) := hSw.cell 12
        have c13 : wz.cell? ⟨p, 13, none⟩ = some (.int .u64 (f.typ : Int)) := hSw.cell 13
        have c14 : wz.cell? ⟨p, 14, none⟩ = some (.int .u8 (f.emp : Int)) := hSw.cell 14
        go_simp
        try with_reducible rfl
      simp only [Act.put, List.setIfInBounds_toArray, List.set_cons_zero, List.set_cons_succ]
      refine takeH (i := 2) (v := ?_) rfl (by kernel_rfl) (by kernel_rfl) (by kernel_rfl) (fun _ _ _ h => h) (some 43) rfl (Or.inl ⟨by rfl, ?_⟩) (by assumption) ?_
      rotate_left 1
      · intro wz hSw
        go_simp
        try with_reducible rfl
      simp only [Act.put, List.setIfInBounds_toArray, List.set_cons_zero, List.set_cons_succ]
      refine takeH (i := 3) (v := ?_) rfl (by kernel_rfl) (by kernel_rfl) (by kernel_rfl) (fun _ _ _ h => h) (some 44) rfl (Or.inl ⟨by rfl, ?_⟩) (by assumption) ?_
      rotate_left 1
      · intro wz hSw
        go_simp
        try with_reducible rfl
      simp only [Act.put, List.setIfInBounds_toArray, List.set_cons_zero, List.set_cons_succ]
      refine wpAnyH_ready (rs := [4]) (by kernel_rfl) (by simp) ?_
      refine AllReadyH.cons rfl (fun KK hKK => ?_) AllReadyH.nil
      refine step_call1 (by rfl) 30 (.tmp 44) _ (by rfl) _ (by rfl) (fun _ _ => rfl) _ (HA.out vnd) (some 45) rfl ?_
      rintro e x1 ⟨rfl, hb⟩
      refine ⟨_, rfl, ?_⟩
      replace HB := Lib.hid (HB.out.trans (hb.mono HB.out.size)); replace HX := Lib.hid (HX.out.below hb HX.out.lt); replace HR := Lib.hid (HR.out.below hb HR.out.lt); replace HY := Lib.hid (HY.out.below hb HY.out.lt)
      clear hb
      refine hKK.out _ _ ?_ (fun hHeld => ?_)
      · exact HX.out
      clear hKK KK
      simp only [Act.put, List.setIfInBounds_toArray, List.set_cons_zero, List.set_cons_succ]
      refine takeH (i := 5) (v := ?_) rfl (by kernel_rfl) (by kernel_rfl) (by kernel_rfl) (fun _ _ _ h => h) (some 46) rfl (Or.inl ⟨by rfl, ?_⟩) (by assumption) ?_
      rotate_left 1
      · intro wz hSw
        go_simp
        try with_reducible rfl
      simp only [Act.put, List.setIfInBounds_toArray, List.set_cons_zero, List.set_cons_succ]
      refine takeH (i := 6) (v := ?_) rfl (by kernel_rfl) (by kernel_rfl) (by kernel_rfl) (fun _ _ _ h => h) (some 47) rfl (Or.inl ⟨by rfl, ?_⟩) (by assumption) ?_
      rotate_left 1
      · intro wz hSw
        go_simp
        try with_reducible rfl
      simp only [Act.put, List.setIfInBounds_toArray, List.set_cons_zero, List.set_cons_succ]
      refine wpAnyH_ready (rs := [7]) (by kernel_rfl) (by simp) ?_
      refine AllReadyH.cons rfl (fun KK hKK => ?_) AllReadyH.nil
      have d0 : x1.cell? ⟨g, 0, none⟩ = some (.int .i64 (f.first : Int)) := HY.out.cell 0
      have e0 := HY.out.free 0
      go_simp
      have hgp := HG.out
      refine hKK.out _ _ (HX.out.far (p := ⟨g, 0, none⟩) (by dsimp only; omega) _) (fun hHeld => ?_)
      clear hKK KK hHeld d0 e0
      have HY1 := HY.out.put 0 (.int .i64 (256 * (f.first : Int) + (k5 : Int)))
      replace HX := Lib.hid (HX.out.far (p := ⟨g, 0, none⟩) (by have := HG.out; dsimp only; omega) (.int .i64 (256 * (f.first : Int) + (k5 : Int))))
      replace HR := Lib.hid (HR.out.far (p := ⟨g, 0, none⟩) (by have := HG.out; dsimp only; omega) (.int .i64 (256 * (f.first : Int) + (k5 : Int))))
      replace HB := Lib.hid (HB.out.setCell (p := ⟨g, 0, none⟩) (by have := HG.out; have := HP.out; dsimp only; omega) (.int .i64 (256 * (f.first : Int) + (k5 : Int))))
      generalize x1.setCell ⟨g, 0, none⟩ (.int .i64 (256 * (f.first : Int) + (k5 : Int))) = vm at *
      refine wpAnyH_done (by kernel_rfl) ?_ _
      replace HY := Lib.hid (show Blk vm g 24 (akC ⟨(256 * (f.first : Int) + (k5 : Int)), nuI s f.la f.ln, nuI s f.ba f.bn, r1, (256 + (byt s 2 : Int)), nuI s f.wa f.wn, (0 : Int)⟩) from HY1)
      clear HY1
      go_upto_region 6 with (fail)
      refine wp_region_held_drew (S := fun v => Blk v p 51 (fmC f)) (by kernel_rfl) ?_ (fun hHeld => ?_)
      · exact HX.out.drew
      replace HB := Lib.hid HB.out.drew; replace HX := Lib.hid HX.out.drew; replace HR := Lib.hid HR.out.drew; replace HY := Lib.hid HY.out.drew
      generalize vm.drew = vmd at *
      refine takeH (i := 0) (v := ?_) rfl (by kernel_rfl) (by kernel_rfl) (by kernel_rfl) (fun _ _ _ h => h) (some 48) rfl (Or.inl ⟨by rfl, ?_⟩) (by assumption) ?_
      rotate_left 1
      · intro wz hSw
        go_simp
        try with_reducible rfl
      simp only [Act.put, List.setIfInBounds_toArray, List.set_cons_zero, List.set_cons_succ]
      refine takeH (i := 1) (v := ?_) rfl (by kernel_rfl) (by kernel_rfl) (by kernel_rfl) (fun _ _ _ h => h) (some 49) rfl (Or.inl ⟨by rfl, ?_⟩) (by assumption) ?_
      rotate_left 1
      · intro wz hSw
        have c0 : wz.cell? ⟨p, 0, none⟩ = some (.int .i64 ((f.first : Nat) : Int)) := hSw.cell 0
        have c2 : wz.cell? ⟨p, 2, none⟩ = some (.int .i64 (f.la : Int)) := hSw.cell 2
        have c3 : wz.cell? ⟨p, 3, none⟩ = some (.int .i64 (f.ln : Int)) := hSw.cell 3
        have c4 : wz.cell? ⟨p, 4, none⟩ = some (.int .i64 (f.ba : Int)) := hSw.cell 4
        have c5 : wz.cell? ⟨p, 5, none⟩ = some (.int .i64 (f.bn : Int)) := hSw.cell 5
        have c6 : wz.cell? ⟨p, 6, none⟩ = some (.int .i64 (f.wa : Int)) := hSw.cell 6
        have c7 : wz.cell? ⟨p, 7, none⟩ = some (.int .i64 (f.wn : Int)) := hSw.cell 7
        have c10 : wz.cell? ⟨p, 10, none⟩ = some (.int .u8 (f.fua : Int)) := hSw.cell 10
        have c11 : wz.cell? ⟨p, 11, none⟩ = some (.int .u8 (f.page : Int)) := hSw.cell 11
        have c12 : wz.cell? ⟨p, 12, none⟩ = some (.int .u64 (f.acts : Int)) := hSw.cell 12
        have c13 : wz.cell? ⟨p, 13, none⟩ = some (.int .u64 (f.typ : Int)) := hSw.cell 13
        have c14 : wz.cell? ⟨p, 14, none⟩ = some (.int .u8 (f.emp : Int)) := hSw.cell 14
        go_simp
        try with_reducible rfl
      simp only [Act.put, List.setIfInBounds_toArray, List.set_cons_zero, List.set_cons_succ]
      refine takeH (i := 2) (v := ?_) rfl (by kernel_rfl) (by kernel_rfl) (by kernel_rfl) (fun _ _ _ h => h) (some 50) rfl (Or.inl ⟨by rfl, ?_⟩) (by assumption) ?_
      rotate_left 1
      · intro wz hSw
        go_simp
        try with_reducible rfl
      simp only [Act.put, List.setIfInBounds_toArray, List.set_cons_zero, List.set_cons_succ]
      refine wpAnyH_ready (rs := [3]) (by kernel_rfl) (by simp) ?_
      refine AllReadyH.cons rfl (fun KK hKK => ?_) AllReadyH.nil
      refine step_call1 (by rfl) 30 (.tmp 50) _ (by rfl) _ (by rfl) (fun _ _ => rfl) _ (HA.out vmd) (some 51) rfl ?_
      rintro e x1 ⟨rfl, hb⟩
      refine ⟨_, rfl, ?_⟩
      replace HB := Lib.hid (HB.out.trans (hb.mono HB.out.size)); replace HX := Lib.hid (HX.out.below hb HX.out.lt); replace HR := Lib.hid (HR.out.below hb HR.out.lt); replace HY := Lib.hid (HY.out.below hb HY.out.lt)
      clear hb
      refine hKK.out _ _ ?_ (fun hHeld => ?_)
      · exact HX.out
      clear hKK KK
      simp only [Act.put, List.setIfInBounds_toArray, List.set_cons_zero, List.set_cons_succ]
      refine wpAnyH_ready (rs := [4]) (by kernel_rfl) (by simp) ?_
      refine AllReadyH.cons rfl (fun KK hKK => ?_) AllReadyH.nil
      refine step_call2 (by rfl) 31 (.tmp 49) (.tmp 51) _ (by rfl) _ _ (by rfl) (by rfl) (fun _ _ => rfl) _ (HBN.out x1) (some 52) rfl ?_
      rintro e x2 ⟨rfl, hb⟩
      refine ⟨_, rfl, ?_⟩
      replace HB := Lib.hid (HB.out.trans (hb.mono HB.out.size)); replace HX := Lib.hid (HX.out.below hb HX.out.lt); replace HR := Lib.hid (HR.out.below hb HR.out.lt); replace HY := Lib.hid (HY.out.below hb HY.out.lt)
      clear hb
      refine hKK.out _ _ ?_ (fun hHeld => ?_)
      · exact HX.out
      clear hKK KK
      simp only [Act.put, List.setIfInBounds_toArray, List.set_cons_zero, List.set_cons_succ]
      refine wpAnyH_done (by kernel_rfl) ?_ _
      clear hHeld
      cases q4 : bitN f.typ k5 with
      | true =>
        go_upto_region 7 with (fail)
        refine wp_region_held_drew (S := fun v => Blk v p 51 (fmC f)) (by kernel_rfl) ?_ (fun hHeld => ?_)
        · exact HX.out.drew
        replace HB := Lib.hid HB.out.drew; replace HX := Lib.hid HX.out.drew; replace HR := Lib.hid HR.out.drew; replace HY := Lib.hid HY.out.drew
        generalize x2.drew = x2d at *
        refine takeH (i := 0) (v := ?_) rfl (by kernel_rfl) (by kernel_rfl) (by kernel_rfl) (fun _ _ _ h => h) (some 53) rfl (Or.inl ⟨by rfl, ?_⟩) (by assumption) ?_
        rotate_left 1
        · intro wz hSw
          go_simp
          try with_reducible rfl
        simp only [Act.put, List.setIfInBounds_toArray, List.set_cons_zero, List.set_cons_succ]
        refine takeH (i := 1) (v := ?_) rfl (by kernel_rfl) (by kernel_rfl) (by kernel_rfl) (fun _ _ _ h => h) (some 54) rfl (Or.inl ⟨by rfl, ?_⟩) (by assumption) ?_
        rotate_left 1
        · intro wz hSw
          go_simp
          try with_reducible rfl
        simp only [Act.put, List.setIfInBounds_toArray, List.set_cons_zero, List.set_cons_succ]
        refine takeH (i := 2) (v := ?_) rfl (by kernel_rfl) (by kernel_rfl) (by kernel_rfl) (fun _ _ _ h => h) (some 55) rfl (Or.inl ⟨by rfl, ?_⟩) (by assumption) ?_
        rotate_left 1
        · intro wz hSw
          go_simp
          try with_reducible rfl
        simp only [Act.put, List.setIfInBounds_toArray, List.set_cons_zero, List.set_cons_succ]
        refine takeH (i := 3) (v := ?_) rfl (by kernel_rfl) (by kernel_rfl) (by kernel_rfl) (fun _ _ _ h => h) (some 56) rfl (Or.inl ⟨by rfl, ?_⟩) (by assumption) ?_
        rotate_left 1
        · intro wz hSw
          have c0 : wz.cell? ⟨p, 0, none⟩ = some (.int .i64 ((f.first : Nat) : Int)) := hSw.cell 0
          have c2 : wz.cell? ⟨p, 2, none⟩ = some (.int .i64 (f.la : Int)) := hSw.cell 2
          have c3 : wz.cell? ⟨p, 3, none⟩ = some (.int .i64 (f.ln : Int)) := hSw.cell 3
          have c4 : wz.cell? ⟨p, 4, none⟩ = some (.int .i64 (f.ba : Int)) := hSw.cell 4
          have c5 : wz.cell? ⟨p, 5, none⟩ = some (.int .i64 (f.bn : Int)) := hSw.cell 5
          have c6 : wz.cell? ⟨p, 6, none⟩ = some (.int .i64 (f.wa : Int)) := hSw.cell 6
          have c7 : wz.cell? ⟨p, 7, none⟩ = some (.int .i64 (f.wn : Int)) := hSw.cell 7
          have c10 : wz.cell? ⟨p, 10, none⟩ = some (.int .u8 (f.fua : Int)) := hSw.cell 10
          have c11 : wz.cell? ⟨p, 11, none⟩ = some (.int .u8 (f.page : Int)) := hSw.cell 11
          have c12 : wz.cell? ⟨p, 12, none⟩ = some (.int .u64 (f.acts : Int)) := hSw.cell 12
          have c13 : wz.cell? ⟨p, 13, none⟩ = some (.int .u64 (f.typ : Int)) := hSw.cell 13
          have c14 : wz.cell? ⟨p, 14, none⟩ = some (.int .u8 (f.emp : Int)) := hSw.cell 14
          go_simp
          try with_reducible rfl
        simp only [Act.put, List.setIfInBounds_toArray, List.set_cons_zero, List.set_cons_succ]
        refine takeH (i := 4) (v := ?_) rfl (by kernel_rfl) (by kernel_rfl) (by kernel_rfl) (fun _ _ _ h => h) (some 57) rfl (Or.inl ⟨by rfl, ?_⟩) (by assumption) ?_
        rotate_left 1
        · intro wz hSw
          go_simp
          try with_reducible rfl
        simp only [Act.put, List.setIfInBounds_toArray, List.set_cons_zero, List.set_cons_succ]
        refine takeH (i := 5) (v := ?_) rfl (by kernel_rfl) (by kernel_rfl) (by kernel_rfl) (fun _ _ _ h => h) (some 58) rfl (Or.inl ⟨by rfl, ?_⟩) (by assumption) ?_
        rotate_left 1
        · intro wz hSw
          go_simp
          try with_reducible rfl
        simp only [Act.put, List.setIfInBounds_toArray, List.set_cons_zero, List.set_cons_succ]
        refine wpAnyH_ready (rs := [6]) (by kernel_rfl) (by simp) ?_
        refine AllReadyH.cons rfl (fun KK hKK => ?_) AllReadyH.nil
        refine step_call1 (by rfl) 17 (.tmp 58) _ (by rfl) _ (by rfl) (fun _ _ => rfl) _ (HTY.out _ x2d (ft HT HB)) (some 59) rfl ?_
        rintro e x1 ⟨rfl, hb⟩
        refine ⟨_, rfl, ?_⟩
        replace HB := Lib.hid (HB.out.trans (hb.mono HB.out.size)); replace HX := Lib.hid (HX.out.below hb HX.out.lt); replace HR := Lib.hid (HR.out.below hb HR.out.lt); replace HY := Lib.hid (HY.out.below hb HY.out.lt)
        clear hb
        refine hKK.out _ _ ?_ (fun hHeld => ?_)
        · exact HX.out
        clear hKK KK
        simp only [Act.put, List.setIfInBounds_toArray, List.set_cons_zero, List.set_cons_succ]
        refine takeH (i := 7) (v := ?_) rfl (by kernel_rfl) (by kernel_rfl) (by kernel_rfl) (fun _ _ _ h => h) (some 60) rfl (Or.inl ⟨by rfl, ?_⟩) (by assumption) ?_
        rotate_left 1
        · intro wz hSw
          go_simp
          try with_reducible rfl
        simp only [Act.put, List.setIfInBounds_toArray, List.set_cons_zero, List.set_cons_succ]
        refine wpAnyH_ready (rs := [8]) (by kernel_rfl) (by simp) ?_
        refine AllReadyH.cons rfl (fun KK hKK => ?_) AllReadyH.nil
        have d0 : x1.cell? ⟨g, 6, none⟩ = some (.int .i64 0) := HY.out.cell 6
        have e0 := HY.out.free 6
        go_simp
        have hgp := HG.out
        refine hKK.out _ _ (HX.out.far (p := ⟨g, 6, none⟩) (by dsimp only; omega) _) (fun hHeld => ?_)
        clear hKK KK hHeld d0 e0
        have HY1 := HY.out.put 6 (.int .i64 (typN (n3 : Int)))
        replace HX := Lib.hid (HX.out.far (p := ⟨g, 6, none⟩) (by have := HG.out; dsimp only; omega) (.int .i64 (typN (n3 : Int))))
        replace HR := Lib.hid (HR.out.far (p := ⟨g, 6, none⟩) (by have := HG.out; dsimp only; omega) (.int .i64 (typN (n3 : Int))))
        replace HB := Lib.hid (HB.out.setCell (p := ⟨g, 6, none⟩) (by have := HG.out; have := HP.out; dsimp only; omega) (.int .i64 (typN (n3 : Int))))
        generalize x1.setCell ⟨g, 6, none⟩ (.int .i64 (typN (n3 : Int))) = vl at *
        refine wpAnyH_done (by kernel_rfl) ?_ _
        replace HY := Lib.hid (show Blk vl g 24 (akC ⟨(256 * (f.first : Int) + (k5 : Int)), nuI s f.la f.ln, nuI s f.ba f.bn, r1, (256 + (byt s 2 : Int)), nuI s f.wa f.wn, typN (n3 : Int)⟩) from HY1)
        clear HY1
        go_upto_region 8 with (fail)
        refine wp_region_lit ?_
        refine wpList_load_row rfl 24 (.tmp 5) rfl g rfl 24 (akC ⟨(256 * (f.first : Int) + (k5 : Int)), nuI s f.la f.ln, nuI s f.ba f.bn, r1, (256 + (byt s 2 : Int)), nuI s f.wa f.wn, typN (n3 : Int)⟩) (0, 0) _ HY.out Tryd.underlying24 rfl sizeA ?_
        refine wpList_store_row rfl 24 (.tmp 4) (.tmp 61) rfl (p + 1) (akC ⟨(256 * (f.first : Int) + (k5 : Int)), nuI s f.la f.ln, nuI s f.ba f.bn, r1, (256 + (byt s 2 : Int)), nuI s f.wa f.wn, typN (n3 : Int)⟩) rfl rfl 24 (akC zA) HR.out sizeA rfl (akC_one _) ?_
        have HZ := Lib.hid (setRow_blk (cs' := akC ⟨(256 * (f.first : Int) + (k5 : Int)), nuI s f.la f.ln, nuI s f.ba f.bn, r1, (256 + (byt s 2 : Int)), nuI s f.wa f.wn, typN (n3 : Int)⟩) HR.out)
        have HBZ := Lib.hid (below_setRow HB.out (by have := HP.out; omega) (akC ⟨(256 * (f.first : Int) + (k5 : Int)), nuI s f.la f.ln, nuI s f.ba f.bn, r1, (256 + (byt s 2 : Int)), nuI s f.wa f.wn, typN (n3 : Int)⟩) (g := p + 1))
        generalize vl.setRow (p + 1) (akC ⟨(256 * (f.first : Int) + (k5 : Int)), nuI s f.la f.ln, nuI s f.ba f.bn, r1, (256 + (byt s 2 : Int)), nuI s f.wa f.wn, typN (n3 : Int)⟩) = vz at *
        go_wp2_with (fail)
        refine bodyPost_ret_by (results_cell_row rfl _ _ (p + 1) 24 (akC ⟨(256 * (f.first : Int) + (k5 : Int)), nuI s f.la f.ln, nuI s f.ba f.bn, r1, (256 + (byt s 2 : Int)), nuI s f.wa f.wn, typN (n3 : Int)⟩) (0, 0) _ rfl HZ.out Tryd.underlying24 rfl sizeA) rfl ?_
        exact ⟨by rw [read_is HF3.out HF5.out HF1.out (HF2.out.symm) q2 q3 q4]; rfl, HBZ.out⟩
      | false =>
        go_upto_region 8 with (fail)
        refine wp_region_lit ?_
        refine wpList_load_row rfl 24 (.tmp 5) rfl g rfl 24 (akC ⟨(256 * (f.first : Int) + (k5 : Int)), nuI s f.la f.ln, nuI s f.ba f.bn, r1, (256 + (byt s 2 : Int)), nuI s f.wa f.wn, (0 : Int)⟩) (0, 0) _ HY.out Tryd.underlying24 rfl sizeA ?_
        refine wpList_store_row rfl 24 (.tmp 4) (.tmp 61) rfl (p + 1) (akC ⟨(256 * (f.first : Int) + (k5 : Int)), nuI s f.la f.ln, nuI s f.ba f.bn, r1, (256 + (byt s 2 : Int)), nuI s f.wa f.wn, (0 : Int)⟩) rfl rfl 24 (akC zA) HR.out sizeA rfl (akC_one _) ?_
        have HZ := Lib.hid (setRow_blk (cs' := akC ⟨(256 * (f.first : Int) + (k5 : Int)), nuI s f.la f.ln, nuI s f.ba f.bn, r1, (256 + (byt s 2 : Int)), nuI s f.wa f.wn, (0 : Int)⟩) HR.out)
        have HBZ := Lib.hid (below_setRow HB.out (by have := HP.out; omega) (akC ⟨(256 * (f.first : Int) + (k5 : Int)), nuI s f.la f.ln, nuI s f.ba f.bn, r1, (256 + (byt s 2 : Int)), nuI s f.wa f.wn, (0 : Int)⟩) (g := p + 1))
        generalize x2.setRow (p + 1) (akC ⟨(256 * (f.first : Int) + (k5 : Int)), nuI s f.la f.ln, nuI s f.ba f.bn, r1, (256 + (byt s 2 : Int)), nuI s f.wa f.wn, (0 : Int)⟩) = vz at *
        go_wp2_with (fail)
        refine bodyPost_ret_by (results_cell_row rfl _ _ (p + 1) 24 (akC ⟨(256 * (f.first : Int) + (k5 : Int)), nuI s f.la f.ln, nuI s f.ba f.bn, r1, (256 + (byt s 2 : Int)), nuI s f.wa f.wn, (0 : Int)⟩) (0, 0) _ rfl HZ.out Tryd.underlying24 rfl sizeA) rfl ?_
        exact ⟨by rw [read_is HF3.out HF5.out HF1.out (HF2.out.symm) q2 q3 q4]; rfl, HBZ.out⟩
    | false =>
      go_upto_region 2 with (fail)
      refine wp_region_held_drew (S := fun v => Blk v p 51 (fmC f)) (by kernel_rfl) ?_ (fun hHeld => ?_)
      · exact HX.out.drew
      replace HB := Lib.hid HB.out.drew; replace HX := Lib.hid HX.out.drew; replace HR := Lib.hid HR.out.drew; replace HY := Lib.hid HY.out.drew
      generalize v2.drew = v2d at *
      refine takeH (i := 0) (v := ?_) rfl (by kernel_rfl) (by kernel_rfl) (by kernel_rfl) (fun _ _ _ h => h) (some 27) rfl (Or.inl ⟨by rfl, ?_⟩) (by assumption) ?_
      rotate_left 1
      · intro wz hSw
        go_simp
        try with_reducible rfl
      simp only [Act.put, List.setIfInBounds_toArray, List.set_cons_zero, List.set_cons_succ]
      refine takeH (i := 1) (v := ?_) rfl (by kernel_rfl) (by kernel_rfl) (by kernel_rfl) (fun _ _ _ h => h) (some 28) rfl (Or.inl ⟨by rfl, ?_⟩) (by assumption) ?_
      rotate_left 1
      · intro wz hSw
        go_simp
        try with_reducible rfl
      simp only [Act.put, List.setIfInBounds_toArray, List.set_cons_zero, List.set_cons_succ]
      refine takeH (i := 2) (v := ?_) rfl (by kernel_rfl) (by kernel_rfl) (by kernel_rfl) (fun _ _ _ h => h) (some 29) rfl (Or.inl ⟨by rfl, ?_⟩) (by assumption) ?_
      rotate_left 1
      · intro wz hSw
        go_simp
        try with_reducible rfl
      simp only [Act.put, List.setIfInBounds_toArray, List.set_cons_zero, List.set_cons_succ]
      refine takeH (i := 3) (v := ?_) rfl (by kernel_rfl) (by kernel_rfl) (by kernel_rfl) (fun _ _ _ h => h) (some 30) rfl (Or.inl ⟨by rfl, ?_⟩) (by assumption) ?_
      rotate_left 1
      · intro wz hSw
        have c0 : wz.cell? ⟨p, 0, none⟩ = some (.int .i64 ((f.first : Nat) : Int)) := hSw.cell 0
        have c2 : wz.cell? ⟨p, 2, none⟩ = some (.int .i64 (f.la : Int)) := hSw.cell 2
        have c3 : wz.cell? ⟨p, 3, none⟩ = some (.int .i64 (f.ln : Int)) := hSw.cell 3
        have c4 : wz.cell? ⟨p, 4, none⟩ = some (.int .i64 (f.ba : Int)) := hSw.cell 4
        have c5 : wz.cell? ⟨p, 5, none⟩ = some (.int .i64 (f.bn : Int)) := hSw.cell 5
        have c6 : wz.cell? ⟨p, 6, none⟩ = some (.int .i64 (f.wa : Int)) := hSw.cell 6
        have c7 : wz.cell? ⟨p, 7, none⟩ = some (.int .i64 (f.wn : Int)) := hSw.cell 7
        have c10 : wz.cell? ⟨p, 10, none⟩ = some (.int .u8 (f.fua : Int)) := hSw.cell 10
        have c11 : wz.cell? ⟨p, 11, none⟩ = some (.int .u8 (f.page : Int)) := hSw.cell 11
        have c12 : wz.cell? ⟨p, 12, none⟩ = some (.int .u64 (f.acts : Int)) := hSw.cell 12
        have c13 : wz.cell? ⟨p, 13, none⟩ = some (.int .u64 (f.typ : Int)) := hSw.cell 13
        have c14 : wz.cell? ⟨p, 14, none⟩ = some (.int .u8 (f.emp : Int)) := hSw.cell 14
        go_simp
        try with_reducible rfl
      simp only [Act.put, List.setIfInBounds_toArray, List.set_cons_zero, List.set_cons_succ]
      refine takeH (i := 4) (v := ?_) rfl (by kernel_rfl) (by kernel_rfl) (by kernel_rfl) (fun _ _ _ h => h) (some 31) rfl (Or.inl ⟨by rfl, ?_⟩) (by assumption) ?_
      rotate_left 1
      · intro wz hSw
        go_simp
        try with_reducible rfl
      simp only [Act.put, List.setIfInBounds_toArray, List.set_cons_zero, List.set_cons_succ]
      refine takeH (i := 5) (v := ?_) rfl (by kernel_rfl) (by kernel_rfl) (by kernel_rfl) (fun _ _ _ h => h) (some 32) rfl (Or.inl ⟨by rfl, ?_⟩) (by assumption) ?_
      rotate_left 1
      · intro wz hSw
        go_simp
        try with_reducible rfl
      simp only [Act.put, List.setIfInBounds_toArray, List.set_cons_zero, List.set_cons_succ]
      refine wpAnyH_done (by kernel_rfl) ?_ _
      clear hHeld
      have d4 : v2d.cell? ⟨g, 4, none⟩ = some (.int .i64 0) := HY.out.cell 4
      have e4 := HY.out.free 4
      go_upto_region 4 with (fail)
      clear d4 e4
      have HY1 := HY.out.put 4 (.int .i64 (256 + (byt s 2 : Int)))
      replace HX := Lib.hid (HX.out.far (p := ⟨g, 4, none⟩) (by have := HG.out; dsimp only; omega) (.int .i64 (256 + (byt s 2 : Int))))
      replace HR := Lib.hid (HR.out.far (p := ⟨g, 4, none⟩) (by have := HG.out; dsimp only; omega) (.int .i64 (256 + (byt s 2 : Int))))
      replace HB := Lib.hid (HB.out.setCell (p := ⟨g, 4, none⟩) (by have := HG.out; have := HP.out; dsimp only; omega) (.int .i64 (256 + (byt s 2 : Int))))
      generalize v2d.setCell ⟨g, 4, none⟩ (.int .i64 (256 + (byt s 2 : Int))) = vn at *
      replace HY := Lib.hid (show Blk vn g 24 (akC ⟨(f.first : Int), nuI s f.la f.ln, nuI s f.ba f.bn, r1, (256 + (byt s 2 : Int)), nuI s f.wa f.wn, (0 : Int)⟩) from HY1)
      clear HY1
      have c12 : vn.cell? ⟨p, 12, none⟩ = some (.int .u64 (f.acts : Int)) := HX.out.cell 12
      go_upto_region 6 with (fail)
      clear c12
      refine wp_region_held_drew (S := fun v => Blk v p 51 (fmC f)) (by kernel_rfl) ?_ (fun hHeld => ?_)
      · exact HX.out.drew
      replace HB := Lib.hid HB.out.drew; replace HX := Lib.hid HX.out.drew; replace HR := Lib.hid HR.out.drew; replace HY := Lib.hid HY.out.drew
      generalize vn.drew = vnd at *
      refine takeH (i := 0) (v := ?_) rfl (by kernel_rfl) (by kernel_rfl) (by kernel_rfl) (fun _ _ _ h => h) (some 48) rfl (Or.inl ⟨by rfl, ?_⟩) (by assumption) ?_
      rotate_left 1
      · intro wz hSw
        go_simp
        try with_reducible rfl
      simp only [Act.put, List.setIfInBounds_toArray, List.set_cons_zero, List.set_cons_succ]
      refine takeH (i := 1) (v := ?_) rfl (by kernel_rfl) (by kernel_rfl) (by kernel_rfl) (fun _ _ _ h => h) (some 49) rfl (Or.inl ⟨by rfl, ?_⟩) (by assumption) ?_
      rotate_left 1
      · intro wz hSw
        have c0 : wz.cell? ⟨p, 0, none⟩ = some (.int .i64 ((f.first : Nat) : Int)) := hSw.cell 0
        have c2 : wz.cell? ⟨p, 2, none⟩ = some (.int .i64 (f.la : Int)) := hSw.cell 2
        have c3 : wz.cell? ⟨p, 3, none⟩ = some (.int .i64 (f.ln : Int)) := hSw.cell 3
        have c4 : wz.cell? ⟨p, 4, none⟩ = some (.int .i64 (f.ba : Int)) := hSw.cell 4
        have c5 : wz.cell? ⟨p, 5, none⟩ = some (.int .i64 (f.bn : Int)) := hSw.cell 5
        have c6 : wz.cell? ⟨p, 6, none⟩ = some (.int .i64 (f.wa : Int)) := hSw.cell 6
        have c7 : wz.cell? ⟨p, 7, none⟩ = some (.int .i64 (f.wn : Int)) := hSw.cell 7
        have c10 : wz.cell? ⟨p, 10, none⟩ = some (.int .u8 (f.fua : Int)) := hSw.cell 10
        have c11 : wz.cell? ⟨p, 11, none⟩ = some (.int .u8 (f.page : Int)) := hSw.cell 11
        have c12 : wz.cell? ⟨p, 12, none⟩ = some (.int .u64 (f.acts : Int)) := hSw.cell 12
        have c13 : wz.cell? ⟨p, 13, none⟩ = some (.int .u64 (f.typ : Int)) := hSw.cell 13
        have c14 : wz.cell? ⟨p, 14, none⟩ = some (.int .u8 (f.emp : Int)) := hSw.cell 14
        go_simp
        try with_reducible rfl
      simp only [Act.put, List.setIfInBounds_toArray, List.set_cons_zero, List.set_cons_succ]
      refine takeH (i := 2) (v := ?_) rfl (by kernel_rfl) (by kernel_rfl) (by kernel_rfl) (fun _ _ _ h => h) (some 50) rfl (Or.inl ⟨by rfl, ?_⟩) (by assumption) ?_
      rotate_left 1
      · intro wz hSw
        go_simp
        try with_reducible rfl
      simp only [Act.put, List.setIfInBounds_toArray, List.set_cons_zero, List.set_cons_succ]
      refine wpAnyH_ready (rs := [3]) (by kernel_rfl) (by simp) ?_
      refine AllReadyH.cons rfl (fun KK hKK => ?_) AllReadyH.nil
      refine step_call1 (by rfl) 30 (.tmp 50) _ (by rfl) _ (by rfl) (fun _ _ => rfl) _ (HA.out vnd) (some 51) rfl ?_
      rintro e x1 ⟨rfl, hb⟩
      refine ⟨_, rfl, ?_⟩
      replace HB := Lib.hid (HB.out.trans (hb.mono HB.out.size)); replace HX := Lib.hid (HX.out.below hb HX.out.lt); replace HR := Lib.hid (HR.out.below hb HR.out.lt); replace HY := Lib.hid (HY.out.below hb HY.out.lt)
      clear hb
      refine hKK.out _ _ ?_ (fun hHeld => ?_)
      · exact HX.out
      clear hKK KK
      simp only [Act.put, List.setIfInBounds_toArray, List.set_cons_zero, List.set_cons_succ]
      refine wpAnyH_ready (rs := [4]) (by kernel_rfl) (by simp) ?_
      refine AllReadyH.cons rfl (fun KK hKK => ?_) AllReadyH.nil
      refine step_call2 (by rfl) 31 (.tmp 49) (.tmp 51) _ (by rfl) _ _ (by rfl) (by rfl) (fun _ _ => rfl) _ (HBN.out x1) (some 52) rfl ?_
      rintro e x2 ⟨rfl, hb⟩
      refine ⟨_, rfl, ?_⟩
      replace HB := Lib.hid (HB.out.trans (hb.mono HB.out.size)); replace HX := Lib.hid (HX.out.below hb HX.out.lt); replace HR := Lib.hid (HR.out.below hb HR.out.lt); replace HY := Lib.hid (HY.out.below hb HY.out.lt)
      clear hb
      refine hKK.out _ _ ?_ (fun hHeld => ?_)
      · exact HX.out
      clear hKK KK
      simp only [Act.put, List.setIfInBounds_toArray, List.set_cons_zero, List.set_cons_succ]
      refine wpAnyH_done (by kernel_rfl) ?_ _
      clear hHeld
      cases q4 : bitN f.typ k5 with
      | true =>
        go_upto_region 7 with (fail)
        refine wp_region_held_drew (S := fun v => Blk v p 51 (fmC f)) (by kernel_rfl) ?_ (fun hHeld => ?_)
        · exact HX.out.drew
        replace HB := Lib.hid HB.out.drew; replace HX := Lib.hid HX.out.drew; replace HR := Lib.hid HR.out.drew; replace HY := Lib.hid HY.out.drew
        generalize x2.drew = x2d at *
        refine takeH (i := 0) (v := ?_) rfl (by kernel_rfl) (by kernel_rfl) (by kernel_rfl) (fun _ _ _ h => h) (some 53) rfl (Or.inl ⟨by rfl, ?_⟩) (by assumption) ?_
        rotate_left 1
        · intro wz hSw
          go_simp
          try with_reducible rfl
        simp only [Act.put, List.setIfInBounds_toArray, List.set_cons_zero, List.set_cons_succ]
        refine takeH (i := 1) (v := ?_) rfl (by kernel_rfl) (by kernel_rfl) (by kernel_rfl) (fun _ _ _ h => h) (some 54) rfl (Or.inl ⟨by rfl, ?_⟩) (by assumption) ?_
        rotate_left 1
        · intro wz hSw
          go_simp
          try with_reducible rfl
        simp only [Act.put, List.setIfInBounds_toArray, List.set_cons_zero, List.set_cons_succ]
        refine takeH (i := 2) (v := ?_) rfl (by kernel_rfl) (by kernel_rfl) (by kernel_rfl) (fun _ _ _ h => h) (some 55) rfl (Or.inl ⟨by rfl, ?_⟩) (by assumption) ?_
        rotate_left 1
        · intro wz hSw
          go_simp
          try with_reducible rfl
        simp only [Act.put, List.setIfInBounds_toArray, List.set_cons_zero, List.set_cons_succ]
        refine takeH (i := 3) (v := ?_) rfl (by kernel_rfl) (by kernel_rfl) (by kernel_rfl) (fun _ _ _ h => h) (some 56) rfl (Or.inl ⟨by rfl, ?_⟩) (by assumption) ?_
        rotate_left 1
        · intro wz hSw
          have c0 : wz.cell? ⟨p, 0, none⟩ = some (.int .i64 ((f.first : Nat) : Int)) := hSw.cell 0
          have c2 : wz.cell? ⟨p, 2, none⟩ = some (.int .i64 (f.la : Int)) := hSw.cell 2
          have c3 : wz.cell? ⟨p, 3, none⟩ = some (.int .i64 (f.ln : Int)) := hSw.cell 3
          have c4 : wz.cell? ⟨p, 4, none⟩ = some (.int .i64 (f.ba : Int)) := hSw.cell 4
          have c5 : wz.cell? ⟨p, 5, none⟩ = some (.int .i64 (f.bn : Int)) := hSw.cell 5
          have c6 : wz.cell? ⟨p, 6, none⟩ = some (.int .i64 (f.wa : Int)) := hSw.cell 6
          have c7 : wz.cell? ⟨p, 7, none⟩ = some (.int .i64 (f.wn : Int)) := hSw.cell 7
          have c10 : wz.cell? ⟨p, 10, none⟩ = some (.int .u8 (f.fua : Int)) := hSw.cell 10
          have c11 : wz.cell? ⟨p, 11, none⟩ = some (.int .u8 (f.page : Int)) := hSw.cell 11
          have c12 : wz.cell? ⟨p, 12, none⟩ = some (.int .u64 (f.acts : Int)) := hSw.cell 12
          have c13 : wz.cell? ⟨p, 13, none⟩ = some (.int .u64 (f.typ : Int)) := hSw.cell 13
          have c14 : wz.cell? ⟨p, 14, none⟩ = some (.int .u8 (f.emp : Int)) := hSw.cell 14
          go_simp
          try with_reducible rfl
        simp only [Act.put, List.setIfInBounds_toArray, List.set_cons_zero, List.set_cons_succ]
        refine takeH (i := 4) (v := ?_) rfl (by kernel_rfl) (by kernel_rfl) (by kernel_rfl) (fun _ _ _ h => h) (some 57) rfl (Or.inl ⟨by rfl, ?_⟩) (by assumption) ?_
        rotate_left 1
        · intro wz hSw
          go_simp
          try with_reducible rfl
        simp only [Act.put, List.setIfInBounds_toArray, List.set_cons_zero, List.set_cons_succ]
        refine takeH (i := 5) (v := ?_) rfl (by kernel_rfl) (by kernel_rfl) (by kernel_rfl) (fun _ _ _ h => h) (some 58) rfl (Or.inl ⟨by rfl, ?_⟩) (by assumption) ?_
        rotate_left 1
        · intro wz hSw
          go_simp
          try with_reducible rfl
        simp only [Act.put, List.setIfInBounds_toArray, List.set_cons_zero, List.set_cons_succ]
        refine wpAnyH_ready (rs := [6]) (by kernel_rfl) (by simp) ?_
        refine AllReadyH.cons rfl (fun KK hKK => ?_) AllReadyH.nil
        refine step_call1 (by rfl) 17 (.tmp 58) _ (by rfl) _ (by rfl) (fun _ _ => rfl) _ (HTY.out _ x2d (ft HT HB)) (some 59) rfl ?_
        rintro e x1 ⟨rfl, hb⟩
        refine ⟨_, rfl, ?_⟩
        replace HB := Lib.hid (HB.out.trans (hb.mono HB.out.size)); replace HX := Lib.hid (HX.out.below hb HX.out.lt); replace HR := Lib.hid (HR.out.below hb HR.out.lt); replace HY := Lib.hid (HY.out.below hb HY.out.lt)
        clear hb
        refine hKK.out _ _ ?_ (fun hHeld => ?_)
        · exact HX.out
        clear hKK KK
        simp only [Act.put, List.setIfInBounds_toArray, List.set_cons_zero, List.set_cons_succ]
        refine takeH (i := 7) (v := ?_) rfl (by kernel_rfl) (by kernel_rfl) (by kernel_rfl) (fun _ _ _ h => h) (some 60) rfl (Or.inl ⟨by rfl, ?_⟩) (by assumption) ?_
        rotate_left 1
        · intro wz hSw
          go_simp
          try with_reducible rfl
        simp only [Act.put, List.setIfInBounds_toArray, List.set_cons_zero, List.set_cons_succ]
        refine wpAnyH_ready (rs := [8]) (by kernel_rfl) (by simp) ?_
        refine AllReadyH.cons rfl (fun KK hKK => ?_) AllReadyH.nil
        have d0 : x1.cell? ⟨g, 6, none⟩ = some (.int .i64 0) := HY.out.cell 6
        have e0 := HY.out.free 6
        go_simp
        have hgp := HG.out
        refine hKK.out _ _ (HX.out.far (p := ⟨g, 6, none⟩) (by dsimp only; omega) _) (fun hHeld => ?_)
        clear hKK KK hHeld d0 e0
        have HY1 := HY.out.put 6 (.int .i64 (typN (n3 : Int)))
        replace HX := Lib.hid (HX.out.far (p := ⟨g, 6, none⟩) (by have := HG.out; dsimp only; omega) (.int .i64 (typN (n3 : Int))))
        replace HR := Lib.hid (HR.out.far (p := ⟨g, 6, none⟩) (by have := HG.out; dsimp only; omega) (.int .i64 (typN (n3 : Int))))
        replace HB := Lib.hid (HB.out.setCell (p := ⟨g, 6, none⟩) (by have := HG.out; have := HP.out; dsimp only; omega) (.int .i64 (typN (n3 : Int))))
        generalize x1.setCell ⟨g, 6, none⟩ (.int .i64 (typN (n3 : Int))) = vl at *
        refine wpAnyH_done (by kernel_rfl) ?_ _
        replace HY := Lib.hid (show Blk vl g 24 (akC ⟨(f.first : Int), nuI s f.la f.ln, nuI s f.ba f.bn, r1, (256 + (byt s 2 : Int)), nuI s f.wa f.wn, typN (n3 : Int)⟩) from HY1)
        clear HY1
        go_upto_region 8 with (fail)
        refine wp_region_lit ?_
        refine wpList_load_row rfl 24 (.tmp 5) rfl g rfl 24 (akC ⟨(f.first : Int), nuI s f.la f.ln, nuI s f.ba f.bn, r1, (256 + (byt s 2 : Int)), nuI s f.wa f.wn, typN (n3 : Int)⟩) (0, 0) _ HY.out Tryd.underlying24 rfl sizeA ?_
        refine wpList_store_row rfl 24 (.tmp 4) (.tmp 61) rfl (p + 1) (akC ⟨(f.first : Int), nuI s f.la f.ln, nuI s f.ba f.bn, r1, (256 + (byt s 2 : Int)), nuI s f.wa f.wn, typN (n3 : Int)⟩) rfl rfl 24 (akC zA) HR.out sizeA rfl (akC_one _) ?_
        have HZ := Lib.hid (setRow_blk (cs' := akC ⟨(f.first : Int), nuI s f.la f.ln, nuI s f.ba f.bn, r1, (256 + (byt s 2 : Int)), nuI s f.wa f.wn, typN (n3 : Int)⟩) HR.out)
        have HBZ := Lib.hid (below_setRow HB.out (by have := HP.out; omega) (akC ⟨(f.first : Int), nuI s f.la f.ln, nuI s f.ba f.bn, r1, (256 + (byt s 2 : Int)), nuI s f.wa f.wn, typN (n3 : Int)⟩) (g := p + 1))
        generalize vl.setRow (p + 1) (akC ⟨(f.first : Int), nuI s f.la f.ln, nuI s f.ba f.bn, r1, (256 + (byt s 2 : Int)), nuI s f.wa f.wn, typN (n3 : Int)⟩) = vz at *
        go_wp2_with (fail)
        refine bodyPost_ret_by (results_cell_row rfl _ _ (p + 1) 24 (akC ⟨(f.first : Int), nuI s f.la f.ln, nuI s f.ba f.bn, r1, (256 + (byt s 2 : Int)), nuI s f.wa f.wn, typN (n3 : Int)⟩) (0, 0) _ rfl HZ.out Tryd.underlying24 rfl sizeA) rfl ?_
        exact ⟨by rw [read_is HF3.out HF5.out HF1.out (HF2.out.symm) q2 q3 q4]; rfl, HBZ.out⟩
      | false =>
        go_upto_region 8 with (fail)
        refine wp_region_lit ?_
        refine wpList_load_row rfl 24 (.tmp 5) rfl g rfl 24 (akC ⟨(f.first : Int), nuI s f.la f.ln, nuI s f.ba f.bn, r1, (256 + (byt s 2 : Int)), nuI s f.wa f.wn, (0 : Int)⟩) (0, 0) _ HY.out Tryd.underlying24 rfl sizeA ?_
        refine wpList_store_row rfl 24 (.tmp 4) (.tmp 61) rfl (p + 1) (akC ⟨(f.first : Int), nuI s f.la f.ln, nuI s f.ba f.bn, r1, (256 + (byt s 2 : Int)), nuI s f.wa f.wn, (0 : Int)⟩) rfl rfl 24 (akC zA) HR.out sizeA rfl (akC_one _) ?_
        have HZ := Lib.hid (setRow_blk (cs' := akC ⟨(f.first : Int), nuI s f.la f.ln, nuI s f.ba f.bn, r1, (256 + (byt s 2 : Int)), nuI s f.wa f.wn, (0 : Int)⟩) HR.out)
        have HBZ := Lib.hid (below_setRow HB.out (by have := HP.out; omega) (akC ⟨(f.first : Int), nuI s f.la f.ln, nuI s f.ba f.bn, r1, (256 + (byt s 2 : Int)), nuI s f.wa f.wn, (0 : Int)⟩) (g := p + 1))
        generalize x2.setRow (p + 1) (akC ⟨(f.first : Int), nuI s f.la f.ln, nuI s f.ba f.bn, r1, (256 + (byt s 2 : Int)), nuI s f.wa f.wn, (0 : Int)⟩) = vz at *
        go_wp2_with (fail)
        refine bodyPost_ret_by (results_cell_row rfl _ _ (p + 1) 24 (akC ⟨(f.first : Int), nuI s f.la f.ln, nuI s f.ba f.bn, r1, (256 + (byt s 2 : Int)), nuI s f.wa f.wn, (0 : Int)⟩) (0, 0) _ rfl HZ.out Tryd.underlying24 rfl sizeA) rfl ?_
        exact ⟨by rw [read_is HF3.out HF5.out HF1.out (HF2.out.symm) q2 q3 q4]; rfl, HBZ.out⟩
  | false =>
    cases q3 : ((f.acts : Int) != 0) with
    | true =>
      go_upto_region 2 with (fail)
      refine wp_region_held_drew (S := fun v => Blk v p 51 (fmC f)) (by kernel_rfl) ?_ (fun hHeld => ?_)
      · exact HX.out.drew
      replace HB := Lib.hid HB.out.drew; replace HX := Lib.hid HX.out.drew; replace HR := Lib.hid HR.out.drew; replace HY := Lib.hid HY.out.drew
      generalize v2.drew = v2d at *
      refine takeH (i := 0) (v := ?_) rfl (by kernel_rfl) (by kernel_rfl) (by kernel_rfl) (fun _ _ _ h => h) (some 27) rfl (Or.inl ⟨by rfl, ?_⟩) (by assumption) ?_
      rotate_left 1
      · intro wz hSw
        go_simp
        try with_reducible rfl
      simp only [Act.put, List.setIfInBounds_toArray, List.set_cons_zero, List.set_cons_succ]
      refine takeH (i := 1) (v := ?_) rfl (by kernel_rfl) (by kernel_rfl) (by kernel_rfl) (fun _ _ _ h => h) (some 28) rfl (Or.inl ⟨by rfl, ?_⟩) (by assumption) ?_
      rotate_left 1
      · intro wz hSw
        go_simp
        try with_reducible rfl
      simp only [Act.put, List.setIfInBounds_toArray, List.set_cons_zero, List.set_cons_succ]
      refine takeH (i := 2) (v := ?_) rfl (by kernel_rfl) (by kernel_rfl) (by kernel_rfl) (fun _ _ _ h => h) (some 29) rfl (Or.inl ⟨by rfl, ?_⟩) (by assumption) ?_
      rotate_left 1
      · intro wz hSw
        go_simp
        try with_reducible rfl
      simp only [Act.put, List.setIfInBounds_toArray, List.set_cons_zero, List.set_cons_succ]
      refine takeH (i := 3) (v := ?_) rfl (by kernel_rfl) (by kernel_rfl) (by kernel_rfl) (fun _ _ _ h => h) (some 30) rfl (Or.inl ⟨by rfl, ?_⟩) (by assumption) ?_
      rotate_left 1
      · intro wz hSw
        have c0 : wz.cell? ⟨p, 0, none⟩ = some (.int .i64 ((f.first : Nat) : Int)) := hSw.cell 0
        have c2 : wz.cell? ⟨p, 2, none⟩ = some (.int .i64 (f.la : Int)) := hSw.cell 2
        have c3 : wz.cell? ⟨p, 3, none⟩ = some (.int .i64 (f.ln : Int)) := hSw.cell 3
        have c4 : wz.cell? ⟨p, 4, none⟩ = some (.int .i64 (f.ba : Int)) := hSw.cell 4
        have c5 : wz.cell? ⟨p, 5, none⟩ = some (.int .i64 (f.bn : Int)) := hSw.cell 5
        have c6 : wz.cell? ⟨p, 6, none⟩ = some (.int .i64 (f.wa : Int)) := hSw.cell 6
        have c7 : wz.cell? ⟨p, 7, none⟩ = some (.int .i64 (f.wn : Int)) := hSw.cell 7
        have c10 : wz.cell? ⟨p, 10, none⟩ = some (.int .u8 (f.fua : Int)) := hSw.cell 10
        have c11 : wz.cell? ⟨p, 11, none⟩ = some (.int .u8 (f.page : Int)) := hSw.cell 11
        have c12 : wz.cell? ⟨p, 12, none⟩ = some (.int .u64 (f.acts : Int)) := hSw.cell 12
        have c13 : wz.cell? ⟨p, 13, none⟩ = some (.int .u64 (f.typ : Int)) := hSw.cell 13
        have c14 : wz.cell? ⟨p, 14, none⟩ = some (.int .u8 (f.emp : Int)) := hSw.cell 14
        go_simp
        try with_reducible rfl
      simp only [Act.put, List.setIfInBounds_toArray, List.set_cons_zero, List.set_cons_succ]
      refine takeH (i := 4) (v := ?_) rfl (by kernel_rfl) (by kernel_rfl) (by kernel_rfl) (fun _ _ _ h => h) (some 31) rfl (Or.inl ⟨by rfl, ?_⟩) (by assumption) ?_
      rotate_left 1
      · intro wz hSw
        go_simp
        try with_reducible rfl
      simp only [Act.put, List.setIfInBounds_toArray, List.set_cons_zero, List.set_cons_succ]
      refine takeH (i := 5) (v := ?_) rfl (by kernel_rfl) (by kernel_rfl) (by kernel_rfl) (fun _ _ _ h => h) (some 32) rfl (Or.inl ⟨by rfl, ?_⟩) (by assumption) ?_
      rotate_left 1
      · intro wz hSw
        go_simp
        try with_reducible rfl
      simp only [Act.put, List.setIfInBounds_toArray, List.set_cons_zero, List.set_cons_succ]
      refine wpAnyH_done (by kernel_rfl) ?_ _
      clear hHeld
      go_upto_region 4 with (fail)
      have c12 : v2d.cell? ⟨p, 12, none⟩ = some (.int .u64 (f.acts : Int)) := HX.out.cell 12
      go_upto_region 5 with (fail)
      clear c12
      refine wp_region_held_drew (S := fun v => Blk v p 51 (fmC f)) (by kernel_rfl) ?_ (fun hHeld => ?_)
      · exact HX.out.drew
      replace HB := Lib.hid HB.out.drew; replace HX := Lib.hid HX.out.drew; replace HR := Lib.hid HR.out.drew; replace HY := Lib.hid HY.out.drew
      generalize v2d.drew = v2dd at *
      refine takeH (i := 0) (v := ?_) rfl (by kernel_rfl) (by kernel_rfl) (by kernel_rfl) (fun _ _ _ h => h) (some 41) rfl (Or.inl ⟨by rfl, ?_⟩) (by assumption) ?_
      rotate_left 1
      · intro wz hSw
        go_simp
        try with_reducible rfl
      simp only [Act.put, List.setIfInBounds_toArray, List.set_cons_zero, List.set_cons_succ]
      refine takeH (i := 1) (v := ?_) rfl (by kernel_rfl) (by kernel_rfl) (by kernel_rfl) (fun _ _ _ h => h) (some 42) rfl (Or.inl ⟨by rfl, ?_⟩) (by assumption) ?_
      rotate_left 1
      · intro wz hSw
        have c0 : wz.cell? ⟨p, 0, none⟩ = some (.int .i64 ((f.first : Nat) : Int)) := hSw.cell 0
        have c2 : wz.cell? ⟨p, 2, none⟩ = some (.int .i64 (f.la : Int)) := hSw.cell 2
        have c3 : wz.cell? ⟨p, 3, none⟩ = some (.int .i64 (f.ln : Int)) := hSw.cell 3
        have c4 : wz.cell? ⟨p, 4, none⟩ = some (.int .i64 (f.ba : Int)) := hSw.cell 4
        have c5 : wz.cell? ⟨p, 5, none⟩ = some (.int .i64 (f.bn : Int)) := hSw.cell 5
        have c6 : wz.cell? ⟨p, 6, none⟩ = some (.int .i64 (f.wa : Int)) := hSw.cell 6
        have c7 : wz.cell? ⟨p, 7, none⟩ = some (.int .i64 (f.wn : Int)) := hSw.cell 7
        have c10 : wz.cell? ⟨p, 10, none⟩ = some (.int .u8 (f.fua : Int)) := hSw.cell 10
        have c11 : wz.cell? ⟨p, 11, none⟩ = some (.int .u8 (f.page : Int)) := hSw.cell 11
        have c12 : wz.cell? ⟨p, 12, none⟩ = some (.int .u64 (f.acts : Int)) := hSw.cell 12
        have c13 : wz.cell? ⟨p, 13, none⟩ = some (.int .u64 (f.typ : Int)) := hSw.cell 13
        have c14 : wz.cell? ⟨p, 14, none⟩ = some (.int .u8 (f.emp : Int)) := hSw.cell 14
        go_simp
        try with_reducible rfl
      simp only [Act.put, List.setIfInBounds_toArray, List.set_cons_zero, List.set_cons_succ]
      refine takeH (i := 2) (v := ?_) rfl (by kernel_rfl) (by kernel_rfl) (by kernel_rfl) (fun _ _ _ h => h) (some 43) rfl (Or.inl ⟨by rfl, ?_⟩) (by assumption) ?_
      rotate_left 1
      · intro wz hSw
        go_simp
        try with_reducible rfl
      simp only [Act.put, List.setIfInBounds_toArray, List.set_cons_zero, List.set_cons_succ]
      refine takeH (i := 3) (v := ?_) rfl (by kernel_rfl) (by kernel_rfl) (by kernel_rfl) (fun _ _ _ h => h) (some 44) rfl (Or.inl ⟨by rfl, ?_⟩) (by assumption) ?_
      rotate_left 1
      · intro wz hSw
        go_simp
        try with_reducible rfl
      simp only [Act.put, List.setIfInBounds_toArray, List.set_cons_zero, List.set_cons_succ]
      refine wpAnyH_ready (rs := [4]) (by kernel_rfl) (by simp) ?_
      refine AllReadyH.cons rfl (fun KK hKK => ?_) AllReadyH.nil
      refine step_call1 (by rfl) 30 (.tmp 44) _ (by rfl) _ (by rfl) (fun _ _ => rfl) _ (HA.out v2dd) (some 45) rfl ?_
      rintro e x1 ⟨rfl, hb⟩
      refine ⟨_, rfl, ?_⟩
      replace HB := Lib.hid (HB.out.trans (hb.mono HB.out.size)); replace HX := Lib.hid (HX.out.below hb HX.out.lt); replace HR := Lib.hid (HR.out.below hb HR.out.lt); replace HY := Lib.hid (HY.out.below hb HY.out.lt)
      clear hb
      refine hKK.out _ _ ?_ (fun hHeld => ?_)
      · exact HX.out
      clear hKK KK
      simp only [Act.put, List.setIfInBounds_toArray, List.set_cons_zero, List.set_cons_succ]
      refine takeH (i := 5) (v := ?_) rfl (by kernel_rfl) (by kernel_rfl) (by kernel_rfl) (fun _ _ _ h => h) (some 46) rfl (Or.inl ⟨by rfl, ?_⟩) (by assumption) ?_
      rotate_left 1
      · intro wz hSw
        go_simp
        try with_reducible rfl
      simp only [Act.put, List.setIfInBounds_toArray, List.set_cons_zero, List.set_cons_succ]
      refine takeH (i := 6) (v := ?_) rfl (by kernel_rfl) (by kernel_rfl) (by kernel_rfl) (fun _ _ _ h => h) (some 47) rfl (Or.inl ⟨by rfl, ?_⟩) (by assumption) ?_
      rotate_left 1
      · intro wz hSw
        go_simp
        try with_reducible rfl
      simp only [Act.put, List.setIfInBounds_toArray, List.set_cons_zero, List.set_cons_succ]
      refine wpAnyH_ready (rs := [7]) (by kernel_rfl) (by simp) ?_
      refine AllReadyH.cons rfl (fun KK hKK => ?_) AllReadyH.nil
      have d0 : x1.cell? ⟨g, 0, none⟩ = some (.int .i64 (f.first : Int)) := HY.out.cell 0
      have e0 := HY.out.free 0
      go_simp
      have hgp := HG.out
      refine hKK.out _ _ (HX.out.far (p := ⟨g, 0, none⟩) (by dsimp only; omega) _) (fun hHeld => ?_)
      clear hKK KK hHeld d0 e0
      have HY1 := HY.out.put 0 (.int .i64 (256 * (f.first : Int) + (k5 : Int)))
      replace HX := Lib.hid (HX.out.far (p := ⟨g, 0, none⟩) (by have := HG.out; dsimp only; omega) (.int .i64 (256 * (f.first : Int) + (k5 : Int))))
      replace HR := Lib.hid (HR.out.far (p := ⟨g, 0, none⟩) (by have := HG.out; dsimp only; omega) (.int .i64 (256 * (f.first : Int) + (k5 : Int))))
      replace HB := Lib.hid (HB.out.setCell (p := ⟨g, 0, none⟩) (by have := HG.out; have := HP.out; dsimp only; omega) (.int .i64 (256 * (f.first : Int) + (k5 : Int))))
      generalize x1.setCell ⟨g, 0, none⟩ (.int .i64 (256 * (f.first : Int) + (k5 : Int))) = vm at *
      refine wpAnyH_done (by kernel_rfl) ?_ _
      replace HY := Lib.hid (show Blk vm g 24 (akC ⟨(256 * (f.first : Int) + (k5 : Int)), nuI s f.la f.ln, nuI s f.ba f.bn, r1, (0 : Int), nuI s f.wa f.wn, (0 : Int)⟩) from HY1)
      clear HY1
      go_upto_region 6 with (fail)
      refine wp_region_held_drew (S := fun v => Blk v p 51 (fmC f)) (by kernel_rfl) ?_ (fun hHeld => ?_)
      · exact HX.out.drew
      replace HB := Lib.hid HB.out.drew; replace HX := Lib.hid HX.out.drew; replace HR := Lib.hid HR.out.drew; replace HY := Lib.hid HY.out.drew
      generalize vm.drew = vmd at *
      refine takeH (i := 0) (v := ?_) rfl (by kernel_rfl) (by kernel_rfl) (by kernel_rfl) (fun _ _ _ h => h) (some 48) rfl (Or.inl ⟨by rfl, ?_⟩) (by assumption) ?_
      rotate_left 1
      · intro wz hSw
        go_simp
        try with_reducible rfl
      simp only [Act.put, List.setIfInBounds_toArray, List.set_cons_zero, List.set_cons_succ]
      refine takeH (i := 1) (v := ?_) rfl (by kernel_rfl) (by kernel_rfl) (by kernel_rfl) (fun _ _ _ h => h) (some 49) rfl (Or.inl ⟨by rfl, ?_⟩) (by assumption) ?_
      rotate_left 1
      · intro wz hSw
        have c0 : wz.cell? ⟨p, 0, none⟩ = some (.int .i64 ((f.first : Nat) : Int)) := hSw.cell 0
        have c2 : wz.cell? ⟨p, 2, none⟩ = some (.int .i64 (f.la : Int)) := hSw.cell 2
        have c3 : wz.cell? ⟨p, 3, none⟩ = some (.int .i64 (f.ln : Int)) := hSw.cell 3
        have c4 : wz.cell? ⟨p, 4, none⟩ = some (.int .i64 (f.ba : Int)) := hSw.cell 4
        have c5 : wz.cell? ⟨p, 5, none⟩ = some (.int .i64 (f.bn : Int)) := hSw.cell 5
        have c6 : wz.cell? ⟨p, 6, none⟩ = some (.int .i64 (f.wa : Int)) := hSw.cell 6
        have c7 : wz.cell? ⟨p, 7, none⟩ = some (.int .i64 (f.wn : Int)) := hSw.cell 7
        have c10 : wz.cell? ⟨p, 10, none⟩ = some (.int .u8 (f.fua : Int)) := hSw.cell 10
        have c11 : wz.cell? ⟨p, 11, none⟩ = some (.int .u8 (f.page : Int)) := hSw.cell 11
        have c12 : wz.cell? ⟨p, 12, none⟩ = some (.int .u64 (f.acts : Int)) := hSw.cell 12
        have c13 : wz.cell? ⟨p, 13, none⟩ = some (.int .u64 (f.typ : Int)) := hSw.cell 13
        have c14 : wz.cell? ⟨p, 14, none⟩ = some (.int .u8 (f.emp : Int)) := hSw.cell 14
        go_simp
        try with_reducible rfl
      simp only [Act.put, List.setIfInBounds_toArray, List.set_cons_zero, List.set_cons_succ]
      refine takeH (i := 2) (v := ?_) rfl (by kernel_rfl) (by kernel_rfl) (by kernel_rfl) (fun _ _ _ h => h) (some 50) rfl (Or.inl ⟨by rfl, ?_⟩) (by assumption) ?_
      rotate_left 1
      · intro wz hSw
        go_simp
        try with_reducible rfl
      simp only [Act.put, List.setIfInBounds_toArray, List.set_cons_zero, List.set_cons_succ]
      refine wpAnyH_ready (rs := [3]) (by kernel_rfl) (by simp) ?_
      refine AllReadyH.cons rfl (fun KK hKK => ?_) AllReadyH.nil
      refine step_call1 (by rfl) 30 (.tmp 50) _ (by rfl) _ (by rfl) (fun _ _ => rfl) _ (HA.out vmd) (some 51) rfl ?_
      rintro e x1 ⟨rfl, hb⟩
      refine ⟨_, rfl, ?_⟩
      replace HB := Lib.hid (HB.out.trans (hb.mono HB.out.size)); replace HX := Lib.hid (HX.out.below hb HX.out.lt); replace HR := Lib.hid (HR.out.below hb HR.out.lt); replace HY := Lib.hid (HY.out.below hb HY.out.lt)
      clear hb
      refine hKK.out _ _ ?_ (fun hHeld => ?_)
      · exact HX.out
      clear hKK KK
      simp only [Act.put, List.setIfInBounds_toArray, List.set_cons_zero, List.set_cons_succ]
      refine wpAnyH_ready (rs := [4]) (by kernel_rfl) (by simp) ?_
      refine AllReadyH.cons rfl (fun KK hKK => ?_) AllReadyH.nil
      refine step_call2 (by rfl) 31 (.tmp 49) (.tmp 51) _ (by rfl) _ _ (by rfl) (by rfl) (fun _ _ => rfl) _ (HBN.out x1) (some 52) rfl ?_
      rintro e x2 ⟨rfl, hb⟩
      refine ⟨_, rfl, ?_⟩
      replace HB := Lib.hid (HB.out.trans (hb.mono HB.out.size)); replace HX := Lib.hid (HX.out.below hb HX.out.lt); replace HR := Lib.hid (HR.out.below hb HR.out.lt); replace HY := Lib.hid (HY.out.below hb HY.out.lt)
      clear hb
      refine hKK.out _ _ ?_ (fun hHeld => ?_)
      · exact HX.out
      clear hKK KK
      simp only [Act.put, List.setIfInBounds_toArray, List.set_cons_zero, List.set_cons_succ]
      refine wpAnyH_done (by kernel_rfl) ?_ _
      clear hHeld
      cases q4 : bitN f.typ k5 with
      | true =>
        go_upto_region 7 with (fail)
        refine wp_region_held_drew (S := fun v => Blk v p 51 (fmC f)) (by kernel_rfl) ?_ (fun hHeld => ?_)
        · exact HX.out.drew
        replace HB := Lib.hid HB.out.drew; replace HX := Lib.hid HX.out.drew; replace HR := Lib.hid HR.out.drew; replace HY := Lib.hid HY.out.drew
        generalize x2.drew = x2d at *
        refine takeH (i := 0) (v := ?_) rfl (by kernel_rfl) (by kernel_rfl) (by kernel_rfl) (fun _ _ _ h => h) (some 53) rfl (Or.inl ⟨by rfl, ?_⟩) (by assumption) ?_
        rotate_left 1
        · intro wz hSw
          go_simp
          try with_reducible rfl
        simp only [Act.put, List.setIfInBounds_toArray, List.set_cons_zero, List.set_cons_succ]
        refine takeH (i := 1) (v := ?_) rfl (by kernel_rfl) (by kernel_rfl) (by kernel_rfl) (fun _ _ _ h => h) (some 54) rfl (Or.inl ⟨by rfl, ?_⟩) (by assumption) ?_
        rotate_left 1
        · intro wz hSw
          go_simp
          try with_reducible rfl
        simp only [Act.put, List.setIfInBounds_toArray, List.set_cons_zero, List.set_cons_succ]
        refine takeH (i := 2) (v := ?_) rfl (by kernel_rfl) (by kernel_rfl) (by kernel_rfl) (fun _ _ _ h => h) (some 55) rfl (Or.inl ⟨by rfl, ?_⟩) (by assumption) ?_
        rotate_left 1
        · intro wz hSw
          go_simp
          try with_reducible rfl
        simp only [Act.put, List.setIfInBounds_toArray, List.set_cons_zero, List.set_cons_succ]
        refine takeH (i := 3) (v := ?_) rfl (by kernel_rfl) (by kernel_rfl) (by kernel_rfl) (fun _ _ _ h => h) (some 56) rfl (Or.inl ⟨by rfl, ?_⟩) (by assumption) ?_
        rotate_left 1
        · intro wz hSw
          have c0 : wz.cell? ⟨p, 0, none⟩ = some (.int .i64 ((f.first : Nat) : Int)) := hSw.cell 0
          have c2 : wz.cell? ⟨p, 2, none⟩ = some (.int .i64 (f.la : Int)) := hSw.cell 2
          have c3 : wz.cell? ⟨p, 3, none⟩ = some (.int .i64 (f.ln : Int)) := hSw.cell 3
          have c4 : wz.cell? ⟨p, 4, none⟩ = some (.int .i64 (f.ba : Int)) := hSw.cell 4
          have c5 : wz.cell? ⟨p, 5, none⟩ = some (.int .i64 (f.bn : Int)) := hSw.cell 5
          have c6 : wz.cell? ⟨p, 6, none⟩ = some (.int .i64 (f.wa : Int)) := hSw.cell 6
          have c7 : wz.cell? ⟨p, 7, none⟩ = some (.int .i64 (f.wn : Int)) := hSw.cell 7
          have c10 : wz.cell? ⟨p, 10, none⟩ = some (.int .u8 (f.fua : Int)) := hSw.cell 10
          have c11 : wz.cell? ⟨p, 11, none⟩ = some (.int .u8 (f.page : Int)) := hSw.cell 11
          have c12 : wz.cell? ⟨p, 12, none⟩ = some (.int .u64 (f.acts : Int)) := hSw.cell 12
          have c13 : wz.cell? ⟨p, 13, none⟩ = some (.int .u64 (f.typ : Int)) := hSw.cell 13
          have c14 : wz.cell? ⟨p, 14, none⟩ = some (.int .u8 (f.emp : Int)) := hSw.cell 14
          go_simp
          try with_reducible rfl
        simp only [Act.put, List.setIfInBounds_toArray, List.set_cons_zero, List.set_cons_succ]
        refine takeH (i := 4) (v := ?_) rfl (by kernel_rfl) (by kernel_rfl) (by kernel_rfl) (fun _ _ _ h => h) (some 57) rfl (Or.inl ⟨by rfl, ?_⟩) (by assumption) ?_
        rotate_left 1
        · intro wz hSw
          go_simp
          try with_reducible rfl
        simp only [Act.put, List.setIfInBounds_toArray, List.set_cons_zero, List.set_cons_succ]
        refine takeH (i := 5) (v := ?_) rfl (by kernel_rfl) (by kernel_rfl) (by kernel_rfl) (fun _ _ _ h => h) (some 58) rfl (Or.inl ⟨by rfl, ?_⟩) (by assumption) ?_
        rotate_left 1
        · intro wz hSw
          go_simp
          try with_reducible rfl
        simp only [Act.put, List.setIfInBounds_toArray, List.set_cons_zero, List.set_cons_succ]
        refine wpAnyH_ready (rs := [6]) (by kernel_rfl) (by simp) ?_
        refine AllReadyH.cons rfl (fun KK hKK => ?_) AllReadyH.nil
        refine step_call1 (by rfl) 17 (.tmp 58) _ (by rfl) _ (by rfl) (fun _ _ => rfl) _ (HTY.out _ x2d (ft HT HB)) (some 59) rfl ?_
        rintro e x1 ⟨rfl, hb⟩
        refine ⟨_, rfl, ?_⟩
        replace HB := Lib.hid (HB.out.trans (hb.mono HB.out.size)); replace HX := Lib.hid (HX.out.below hb HX.out.lt); replace HR := Lib.hid (HR.out.below hb HR.out.lt); replace HY := Lib.hid (HY.out.below hb HY.out.lt)
        clear hb
        refine hKK.out _ _ ?_ (fun hHeld => ?_)
        · exact HX.out
        clear hKK KK
        simp only [Act.put, List.setIfInBounds_toArray, List.set_cons_zero, List.set_cons_succ]
        refine takeH (i := 7) (v := ?_) rfl (by kernel_rfl) (by kernel_rfl) (by kernel_rfl) (fun _ _ _ h => h) (some 60) rfl (Or.inl ⟨by rfl, ?_⟩) (by assumption) ?_
        rotate_left 1
        · intro wz hSw
          go_simp
          try with_reducible rfl
        simp only [Act.put, List.setIfInBounds_toArray, List.set_cons_zero, List.set_cons_succ]
        refine wpAnyH_ready (rs := [8]) (by kernel_rfl) (by simp) ?_
        refine AllReadyH.cons rfl (fun KK hKK => ?_) AllReadyH.nil
        have d0 : x1.cell? ⟨g, 6, none⟩ = some (.int .i64 0) := HY.out.cell 6
        have e0 := HY.out.free 6
        go_simp
        have hgp := HG.out
        refine hKK.out _ _ (HX.out.far (p := ⟨g, 6, none⟩) (by dsimp only; omega) _) (fun hHeld => ?_)
        clear hKK KK hHeld d0 e0
        have HY1 := HY.out.put 6 (.int .i64 (typN (n3 : Int)))
        replace HX := Lib.hid (HX.out.far (p := ⟨g, 6, none⟩) (by have := HG.out; dsimp only; omega) (.int .i64 (typN (n3 : Int))))
        replace HR := Lib.hid (HR.out.far (p := ⟨g, 6, none⟩) (by have := HG.out; dsimp only; omega) (.int .i64 (typN (n3 : Int))))
        replace HB := Lib.hid (HB.out.setCell (p := ⟨g, 6, none⟩) (by have := HG.out; have := HP.out; dsimp only; omega) (.int .i64 (typN (n3 : Int))))
        generalize x1.setCell ⟨g, 6, none⟩ (.int .i64 (typN (n3 : Int))) = vl at *
        refine wpAnyH_done (by kernel_rfl) ?_ _
        replace HY := Lib.hid (show Blk vl g 24 (akC ⟨(256 * (f.first : Int) + (k5 : Int)), nuI s f.la f.ln, nuI s f.ba f.bn, r1, (0 : Int), nuI s f.wa f.wn, typN (n3 : Int)⟩) from HY1)
        clear HY1
        go_upto_region 8 with (fail)
        refine wp_region_lit ?_
        refine wpList_load_row rfl 24 (.tmp 5) rfl g rfl 24 (akC ⟨(256 * (f.first : Int) + (k5 : Int)), nuI s f.la f.ln, nuI s f.ba f.bn, r1, (0 : Int), nuI s f.wa f.wn, typN (n3 : Int)⟩) (0, 0) _ HY.out Tryd.underlying24 rfl sizeA ?_
        refine wpList_store_row rfl 24 (.tmp 4) (.tmp 61) rfl (p + 1) (akC ⟨(256 * (f.first : Int) + (k5 : Int)), nuI s f.la f.ln, nuI s f.ba f.bn, r1, (0 : Int), nuI s f.wa f.wn, typN (n3 : Int)⟩) rfl rfl 24 (akC zA) HR.out sizeA rfl (akC_one _) ?_
        have HZ := Lib.hid (setRow_blk (cs' := akC ⟨(256 * (f.first : Int) + (k5 : Int)), nuI s f.la f.ln, nuI s f.ba f.bn, r1, (0 : Int), nuI s f.wa f.wn, typN (n3 : Int)⟩) HR.out)
        have HBZ := Lib.hid (below_setRow HB.out (by have := HP.out; omega) (akC ⟨(256 * (f.first : Int) + (k5 : Int)), nuI s f.la f.ln, nuI s f.ba f.bn, r1, (0 : Int), nuI s f.wa f.wn, typN (n3 : Int)⟩) (g := p + 1))
        generalize vl.setRow (p + 1) (akC ⟨(256 * (f.first : Int) + (k5 : Int)), nuI s f.la f.ln, nuI s f.ba f.bn, r1, (0 : Int), nuI s f.wa f.wn, typN (n3 : Int)⟩) = vz at *
        go_wp2_with (fail)
        refine bodyPost_ret_by (results_cell_row rfl _ _ (p + 1) 24 (akC ⟨(256 * (f.first : Int) + (k5 : Int)), nuI s f.la f.ln, nuI s f.ba f.bn, r1, (0 : Int), nuI s f.wa f.wn, typN (n3 : Int)⟩) (0, 0) _ rfl HZ.out Tryd.underlying24 rfl sizeA) rfl ?_
        exact ⟨by rw [read_is HF3.out HF5.out HF1.out (HF2.out.symm) q2 q3 q4]; rfl, HBZ.out⟩
      | false =>
        go_upto_region 8 with (fail)
        refine wp_region_lit ?_
        refine wpList_load_row rfl 24 (.tmp 5) rfl g rfl 24 (akC ⟨(256 * (f.first : Int) + (k5 : Int)), nuI s f.la f.ln, nuI s f.ba f.bn, r1, (0 : Int), nuI s f.wa f.wn, (0 : Int)⟩) (0, 0) _ HY.out Tryd.underlying24 rfl sizeA ?_
        refine wpList_store_row rfl 24 (.tmp 4) (.tmp 61) rfl (p + 1) (akC ⟨(256 * (f.first : Int) + (k5 : Int)), nuI s f.la f.ln, nuI s f.ba f.bn, r1, (0 : Int), nuI s f.wa f.wn, (0 : Int)⟩) rfl rfl 24 (akC zA) HR.out sizeA rfl (akC_one _) ?_
        have HZ := Lib.hid (setRow_blk (cs' := akC ⟨(256 * (f.first : Int) + (k5 : Int)), nuI s f.la f.ln, nuI s f.ba f.bn, r1, (0 : Int), nuI s f.wa f.wn, (0 : Int)⟩) HR.out)
        have HBZ := Lib.hid (below_setRow HB.out (by have := HP.out; omega) (akC ⟨(256 * (f.first : Int) + (k5 : Int)), nuI s f.la f.ln, nuI s f.ba f.bn, r1, (0 : Int), nuI s f.wa f.wn, (0 : Int)⟩) (g := p + 1))
        generalize x2.setRow (p + 1) (akC ⟨(256 * (f.first : Int) + (k5 : Int)), nuI s f.la f.ln, nuI s f.ba f.bn, r1, (0 : Int), nuI s f.wa f.wn, (0 : Int)⟩) = vz at *
        go_wp2_with (fail)
        refine bodyPost_ret_by (results_cell_row rfl _ _ (p + 1) 24 (akC ⟨(256 * (f.first : Int) + (k5 : Int)), nuI s f.la f.ln, nuI s f.ba f.bn, r1, (0 : Int), nuI s f.wa f.wn, (0 : Int)⟩) (0, 0) _ rfl HZ.out Tryd.underlying24 rfl sizeA) rfl ?_
        exact ⟨by rw [read_is HF3.out HF5.out HF1.out (HF2.out.symm) q2 q3 q4]; rfl, HBZ.out⟩
    | false =>
      go_upto_region 2 with (fail)
      refine wp_region_held_drew (S := fun v => Blk v p 51 (fmC f)) (by kernel_rfl) ?_ (fun hHeld => ?_)
      · exact HX.out.drew
      replace HB := Lib.hid HB.out.drew; replace HX := Lib.hid HX.out.drew; replace HR := Lib.hid HR.out.drew; replace HY := Lib.hid HY.out.drew
      generalize v2.drew = v2d at *
      refine takeH (i := 0) (v := ?_) rfl (by kernel_rfl) (by kernel_rfl) (by kernel_rfl) (fun _ _ _ h => h) (some 27) rfl (Or.inl ⟨by rfl, ?_⟩) (by assumption) ?_
      rotate_left 1
      · intro wz hSw
        go_simp
        try with_reducible rfl
      simp only [Act.put, List.setIfInBounds_toArray, List.set_cons_zero, List.set_cons_succ]
      refine takeH (i := 1) (v := ?_) rfl (by kernel_rfl) (by kernel_rfl) (by kernel_rfl) (fun _ _ _ h => h) (some 28) rfl (Or.inl ⟨by rfl, ?_⟩) (by assumption) ?_
      rotate_left 1
      · intro wz hSw
        go_simp
        try with_reducible rfl
      simp only [Act.put, List.setIfInBounds_toArray, List.set_cons_zero, List.set_cons_succ]
      refine takeH (i := 2) (v := ?_) rfl (by kernel_rfl) (by kernel_rfl) (by kernel_rfl) (fun _ _ _ h => h) (some 29) rfl (Or.inl ⟨by rfl, ?_⟩) (by assumption) ?_
      rotate_left 1
      · intro wz hSw
        go_simp
        try with_reducible rfl
      simp only [Act.put, List.setIfInBounds_toArray, List.set_cons_zero, List.set_cons_succ]
      refine takeH (i := 3) (v := ?_) rfl (by kernel_rfl) (by kernel_rfl) (by kernel_rfl) (fun _ _ _ h => h) (some 30) rfl (Or.inl ⟨by rfl, ?_⟩) (by assumption) ?_
      rotate_left 1
      · intro wz hSw
        have c0 : wz.cell? ⟨p, 0, none⟩ = some (.int .i64 ((f.first : Nat) : Int)) := hSw.cell 0
        have c2 : wz.cell? ⟨p, 2, none⟩ = some (.int .i64 (f.la : Int)) := hSw.cell 2
        have c3 : wz.cell? ⟨p, 3, none⟩ = some (.int .i64 (f.ln : Int)) := hSw.cell 3
        have c4 : wz.cell? ⟨p, 4, none⟩ = some (.int .i64 (f.ba : Int)) := hSw.cell 4
        have c5 : wz.cell? ⟨p, 5, none⟩ = some (.int .i64 (f.bn : Int)) := hSw.cell 5
        have c6 : wz.cell? ⟨p, 6, none⟩ = some (.int .i64 (f.wa : Int)) := hSw.cell 6
        have c7 : wz.cell? ⟨p, 7, none⟩ = some (.int .i64 (f.wn : Int)) := hSw.cell 7
        have c10 : wz.cell? ⟨p, 10, none⟩ = some (.int .u8 (f.fua : Int)) := hSw.cell 10
        have c11 : wz.cell? ⟨p, 11, none⟩ = some (.int .u8 (f.page : Int)) := hSw.cell 11
        have c12 : wz.cell? ⟨p, 12, none⟩ = some (.int .u64 (f.acts : Int)) := hSw.cell 12
        have c13 : wz.cell? ⟨p, 13, none⟩ = some (.int .u64 (f.typ : Int)) := hSw.cell 13
        have c14 : wz.cell? ⟨p, 14, none⟩ = some (.int .u8 (f.emp : Int)) := hSw.cell 14
        go_simp
        try with_reducible rfl
      simp only [Act.put, List.setIfInBounds_toArray, List.set_cons_zero, List.set_cons_succ]
      refine takeH (i := 4) (v := ?_) rfl (by kernel_rfl) (by kernel_rfl) (by kernel_rfl) (fun _ _ _ h => h) (some 31) rfl (Or.inl ⟨by rfl, ?_⟩) (by assumption) ?_
      rotate_left 1
      · intro wz hSw
        go_simp
        try with_reducible rfl
      simp only [Act.put, List.setIfInBounds_toArray, List.set_cons_zero, List.set_cons_succ]
      refine takeH (i := 5) (v := ?_) rfl (by kernel_rfl) (by kernel_rfl) (by kernel_rfl) (fun _ _ _ h => h) (some 32) rfl (Or.inl ⟨by rfl, ?_⟩) (by assumption) ?_
      rotate_left 1
      · intro wz hSw
        go_simp
        try with_reducible rfl
      simp only [Act.put, List.setIfInBounds_toArray, List.set_cons_zero, List.set_cons_succ]
      refine wpAnyH_done (by kernel_rfl) ?_ _
      clear hHeld
      go_upto_region 4 with (fail)
      have c12 : v2d.cell? ⟨p, 12, none⟩ = some (.int .u64 (f.acts : Int)) := HX.out.cell 12
      go_upto_region 6 with (fail)
      clear c12
      refine wp_region_held_drew (S := fun v => Blk v p 51 (fmC f)) (by kernel_rfl) ?_ (fun hHeld => ?_)
      · exact HX.out.drew
      replace HB := Lib.hid HB.out.drew; replace HX := Lib.hid HX.out.drew; replace HR := Lib.hid HR.out.drew; replace HY := Lib.hid HY.out.drew
      generalize v2d.drew = v2dd at *
      refine takeH (i := 0) (v := ?_) rfl (by kernel_rfl) (by kernel_rfl) (by kernel_rfl) (fun _ _ _ h => h) (some 48) rfl (Or.inl ⟨by rfl, ?_⟩) (by assumption) ?_
      rotate_left 1
      · intro wz hSw
        go_simp
        try with_reducible rfl
      simp only [Act.put, List.setIfInBounds_toArray, List.set_cons_zero, List.set_cons_succ]
      refine takeH (i := 1) (v := ?_) rfl (by kernel_rfl) (by kernel_rfl) (by kernel_rfl) (fun _ _ _ h => h) (some 49) rfl (Or.inl ⟨by rfl, ?_⟩) (by assumption) ?_
      rotate_left 1
      · intro wz hSw
        have c0 : wz.cell? ⟨p, 0, none⟩ = some (.int .i64 ((f.first : Nat) : Int)) := hSw.cell 0
        have c2 : wz.cell? ⟨p, 2, none⟩ = some (.int .i64 (f.la : Int)) := hSw.cell 2
        have c3 : wz.cell? ⟨p, 3, none⟩ = some (.int .i64 (f.ln : Int)) := hSw.cell 3
        have c4 : wz.cell? ⟨p, 4, none⟩ = some (.int .i64 (f.ba : Int)) := hSw.cell 4
        have c5 : wz.cell? ⟨p, 5, none⟩ = some (.int .i64 (f.bn : Int)) := hSw.cell 5
        have c6 : wz.cell? ⟨p, 6, none⟩ = some (.int .i64 (f.wa : Int)) := hSw.cell 6
        have c7 : wz.cell? ⟨p, 7, none⟩ = some (.int .i64 (f.wn : Int)) := hSw.cell 7
        have c10 : wz.cell? ⟨p, 10, none⟩ = some (.int .u8 (f.fua : Int)) := hSw.cell 10
        have c11 : wz.cell? ⟨p, 11, none⟩ = some (.int .u8 (f.page : Int)) := hSw.cell 11
        have c12 : wz.cell? ⟨p, 12, none⟩ = some (.int .u64 (f.acts : Int)) := hSw.cell 12
        have c13 : wz.cell? ⟨p, 13, none⟩ = some (.int .u64 (f.typ : Int)) := hSw.cell 13
        have c14 : wz.cell? ⟨p, 14, none⟩ = some (.int .u8 (f.emp : Int)) := hSw.cell 14
        go_simp
        try with_reducible rfl
      simp only [Act.put, List.setIfInBounds_toArray, List.set_cons_zero, List.set_cons_succ]
      refine takeH (i := 2) (v := ?_) rfl (by kernel_rfl) (by kernel_rfl) (by kernel_rfl) (fun _ _ _ h => h) (some 50) rfl (Or.inl ⟨by rfl, ?_⟩) (by assumption) ?_
      rotate_left 1
      · intro wz hSw
        go_simp
        try with_reducible rfl
      simp only [Act.put, List.setIfInBounds_toArray, List.set_cons_zero, List.set_cons_succ]
      refine wpAnyH_ready (rs := [3]) (by kernel_rfl) (by simp) ?_
      refine AllReadyH.cons rfl (fun KK hKK => ?_) AllReadyH.nil
      refine step_call1 (by rfl) 30 (.tmp 50) _ (by rfl) _ (by rfl) (fun _ _ => rfl) _ (HA.out v2dd) (some 51) rfl ?_
      rintro e x1 ⟨rfl, hb⟩
      refine ⟨_, rfl, ?_⟩
      replace HB := Lib.hid (HB.out.trans (hb.mono HB.out.size)); replace HX := Lib.hid (HX.out.below hb HX.out.lt); replace HR := Lib.hid (HR.out.below hb HR.out.lt); replace HY := Lib.hid (HY.out.below hb HY.out.lt)
      clear hb
      refine hKK.out _ _ ?_ (fun hHeld => ?_)
      · exact HX.out
      clear hKK KK
      simp only [Act.put, List.setIfInBounds_toArray, List.set_cons_zero, List.set_cons_succ]
      refine wpAnyH_ready (rs := [4]) (by kernel_rfl) (by simp) ?_
      refine AllReadyH.cons rfl (fun KK hKK => ?_) AllReadyH.nil
      refine step_call2 (by rfl) 31 (.tmp 49) (.tmp 51) _ (by rfl) _ _ (by rfl) (by rfl) (fun _ _ => rfl) _ (HBN.out x1) (some 52) rfl ?_
      rintro e x2 ⟨rfl, hb⟩
      refine ⟨_, rfl, ?_⟩
      replace HB := Lib.hid (HB.out.trans (hb.mono HB.out.size)); replace HX := Lib.hid (HX.out.below hb HX.out.lt); replace HR := Lib.hid (HR.out.below hb HR.out.lt); replace HY := Lib.hid (HY.out.below hb HY.out.lt)
      clear hb
      refine hKK.out _ _ ?_ (fun hHeld => ?_)
      · exact HX.out
      clear hKK KK
      simp only [Act.put, List.setIfInBounds_toArray, List.set_cons_zero, List.set_cons_succ]
      refine wpAnyH_done (by kernel_rfl) ?_ _
      clear hHeld
      cases q4 : bitN f.typ k5 with
      | true =>
        go_upto_region 7 with (fail)
        refine wp_region_held_drew (S := fun v => Blk v p 51 (fmC f)) (by kernel_rfl) ?_ (fun hHeld => ?_)
        · exact HX.out.drew
        replace HB := Lib.hid HB.out.drew; replace HX := Lib.hid HX.out.drew; replace HR := Lib.hid HR.out.drew; replace HY := Lib.hid HY.out.drew
        generalize x2.drew = x2d at *
        refine takeH (i := 0) (v := ?_) rfl (by kernel_rfl) (by kernel_rfl) (by kernel_rfl) (fun _ _ _ h => h) (some 53) rfl (Or.inl ⟨by rfl, ?_⟩) (by assumption) ?_
        rotate_left 1
        · intro wz hSw
          go_simp
          try with_reducible rfl
        simp only [Act.put, List.setIfInBounds_toArray, List.set_cons_zero, List.set_cons_succ]
        refine takeH (i := 1) (v := ?_) rfl (by kernel_rfl) (by kernel_rfl) (by kernel_rfl) (fun _ _ _ h => h) (some 54) rfl (Or.inl ⟨by rfl, ?_⟩) (by assumption) ?_
        rotate_left 1
        · intro wz hSw
          go_simp
          try with_reducible rfl
        simp only [Act.put, List.setIfInBounds_toArray, List.set_cons_zero, List.set_cons_succ]
        refine takeH (i := 2) (v := ?_) rfl (by kernel_rfl) (by kernel_rfl) (by kernel_rfl) (fun _ _ _ h => h) (some 55) rfl (Or.inl ⟨by rfl, ?_⟩) (by assumption) ?_
        rotate_left 1
        · intro wz hSw
          go_simp
          try with_reducible rfl
        simp only [Act.put, List.setIfInBounds_toArray, List.set_cons_zero, List.set_cons_succ]
        refine takeH (i := 3) (v := ?_) rfl (by kernel_rfl) (by kernel_rfl) (by kernel_rfl) (fun _ _ _ h => h) (some 56) rfl (Or.inl ⟨by rfl, ?_⟩) (by assumption) ?_
        rotate_left 1
        · intro wz hSw
          have c0 : wz.cell? ⟨p, 0, none⟩ = some (.int .i64 ((f.first : Nat) : Int)) := hSw.cell 0
          have c2 : wz.cell? ⟨p, 2, none⟩ = some (.int .i64 (f.la : Int)) := hSw.cell 2
          have c3 : wz.cell? ⟨p, 3, none⟩ = some (.int .i64 (f.ln : Int)) := hSw.cell 3
          have c4 : wz.cell? ⟨p, 4, none⟩ = some (.int .i64 (f.ba : Int)) := hSw.cell 4
          have c5 : wz.cell? ⟨p, 5, none⟩ = some (.int .i64 (f.bn : Int)) := hSw.cell 5
          have c6 : wz.cell? ⟨p, 6, none⟩ = some (.int .i64 (f.wa : Int)) := hSw.cell 6
          have c7 : wz.cell? ⟨p, 7, none⟩ = some (.int .i64 (f.wn : Int)) := hSw.cell 7
          have c10 : wz.cell? ⟨p, 10, none⟩ = some (.int .u8 (f.fua : Int)) := hSw.cell 10
          have c11 : wz.cell? ⟨p, 11, none⟩ = some (.int .u8 (f.page : Int)) := hSw.cell 11
          have c12 : wz.cell? ⟨p, 12, none⟩ = some (.int .u64 (f.acts : Int)) := hSw.cell 12
          have c13 : wz.cell? ⟨p, 13, none⟩ = some (.int .u64 (f.typ : Int)) := hSw.cell 13
          have c14 : wz.cell? ⟨p, 14, none⟩ = some (.int .u8 (f.emp : Int)) := hSw.cell 14
          go_simp
          try with_reducible rfl
        simp only [Act.put, List.setIfInBounds_toArray, List.set_cons_zero, List.set_cons_succ]
        refine takeH (i := 4) (v := ?_) rfl (by kernel_rfl) (by kernel_rfl) (by kernel_rfl) (fun _ _ _ h => h) (some 57) rfl (Or.inl ⟨by rfl, ?_⟩) (by assumption) ?_
        rotate_left 1
        · intro wz hSw
          go_simp
          try with_reducible rfl
        simp only [Act.put, List.setIfInBounds_toArray, List.set_cons_zero, List.set_cons_succ]
        refine takeH (i := 5) (v := ?_) rfl (by kernel_rfl) (by kernel_rfl) (by kernel_rfl) (fun _ _ _ h => h) (some 58) rfl (Or.inl ⟨by rfl, ?_⟩) (by assumption) ?_
        rotate_left 1
        · intro wz hSw
          go_simp
          try with_reducible rfl
        simp only [Act.put, List.setIfInBounds_toArray, List.set_cons_zero, List.set_cons_succ]
        refine wpAnyH_ready (rs := [6]) (by kernel_rfl) (by simp) ?_
        refine AllReadyH.cons rfl (fun KK hKK => ?_) AllReadyH.nil
        refine step_call1 (by rfl) 17 (.tmp 58) _ (by rfl) _ (by rfl) (fun _ _ => rfl) _ (HTY.out _ x2d (ft HT HB)) (some 59) rfl ?_
        rintro e x1 ⟨rfl, hb⟩
        refine ⟨_, rfl, ?_⟩
        replace HB := Lib.hid (HB.out.trans (hb.mono HB.out.size)); replace HX := Lib.hid (HX.out.below hb HX.out.lt); replace HR := Lib.hid (HR.out.below hb HR.out.lt); replace HY := Lib.hid (HY.out.below hb HY.out.lt)
        clear hb
        refine hKK.out _ _ ?_ (fun hHeld => ?_)
        · exact HX.out
        clear hKK KK
        simp only [Act.put, List.setIfInBounds_toArray, List.set_cons_zero, List.set_cons_succ]
        refine takeH (i := 7) (v := ?_) rfl (by kernel_rfl) (by kernel_rfl) (by kernel_rfl) (fun _ _ _ h => h) (some 60) rfl (Or.inl ⟨by rfl, ?_⟩) (by assumption) ?_
        rotate_left 1
        · intro wz hSw
          go_simp
          try with_reducible rfl
        simp only [Act.put, List.setIfInBounds_toArray, List.set_cons_zero, List.set_cons_succ]
        refine wpAnyH_ready (rs := [8]) (by kernel_rfl) (by simp) ?_
        refine AllReadyH.cons rfl (fun KK hKK => ?_) AllReadyH.nil
        have d0 : x1.cell? ⟨g, 6, none⟩ = some (.int .i64 0) := HY.out.cell 6
        have e0 := HY.out.free 6
        go_simp
        have hgp := HG.out
        refine hKK.out _ _ (HX.out.far (p := ⟨g, 6, none⟩) (by dsimp only; omega) _) (fun hHeld => ?_)
        clear hKK KK hHeld d0 e0
        have HY1 := HY.out.put 6 (.int .i64 (typN (n3 : Int)))
        replace HX := Lib.hid (HX.out.far (p := ⟨g, 6, none⟩) (by have := HG.out; dsimp only; omega) (.int .i64 (typN (n3 : Int))))
        replace HR := Lib.hid (HR.out.far (p := ⟨g, 6, none⟩) (by have := HG.out; dsimp only; omega) (.int .i64 (typN (n3 : Int))))
        replace HB := Lib.hid (HB.out.setCell (p := ⟨g, 6, none⟩) (by have := HG.out; have := HP.out; dsimp only; omega) (.int .i64 (typN (n3 : Int))))
        generalize x1.setCell ⟨g, 6, none⟩ (.int .i64 (typN (n3 : Int))) = vl at *
        refine wpAnyH_done (by kernel_rfl) ?_ _
        replace HY := Lib.hid (show Blk vl g 24 (akC ⟨(f.first : Int), nuI s f.la f.ln, nuI s f.ba f.bn, r1, (0 : Int), nuI s f.wa f.wn, typN (n3 : Int)⟩) from HY1)
        clear HY1
        go_upto_region 8 with (fail)
        refine wp_region_lit ?_
        refine wpList_load_row rfl 24 (.tmp 5) rfl g rfl 24 (akC ⟨(f.first : Int), nuI s f.la f.ln, nuI s f.ba f.bn, r1, (0 : Int), nuI s f.wa f.wn, typN (n3 : Int)⟩) (0, 0) _ HY.out Tryd.underlying24 rfl sizeA ?_
        refine wpList_store_row rfl 24 (.tmp 4) (.tmp 61) rfl (p + 1) (akC ⟨(f.first : Int), nuI s f.la f.ln, nuI s f.ba f.bn, r1, (0 : Int), nuI s f.wa f.wn, typN (n3 : Int)⟩) rfl rfl 24 (akC zA) HR.out sizeA rfl (akC_one _) ?_
        have HZ := Lib.hid (setRow_blk (cs' := akC ⟨(f.first : Int), nuI s f.la f.ln, nuI s f.ba f.bn, r1, (0 : Int), nuI s f.wa f.wn, typN (n3 : Int)⟩) HR.out)
        have HBZ := Lib.hid (below_setRow HB.out (by have := HP.out; omega) (akC ⟨(f.first : Int), nuI s f.la f.ln, nuI s f.ba f.bn, r1, (0 : Int), nuI s f.wa f.wn, typN (n3 : Int)⟩) (g := p + 1))
        generalize vl.setRow (p + 1) (akC ⟨(f.first : Int), nuI s f.la f.ln, nuI s f.ba f.bn, r1, (0 : Int), nuI s f.wa f.wn, typN (n3 : Int)⟩) = vz at *
        go_wp2_with (fail)
        refine bodyPost_ret_by (results_cell_row rfl _ _ (p + 1) 24 (akC ⟨(f.first : Int), nuI s f.la f.ln, nuI s f.ba f.bn, r1, (0 : Int), nuI s f.wa f.wn, typN (n3 : Int)⟩) (0, 0) _ rfl HZ.out Tryd.underlying24 rfl sizeA) rfl ?_
        exact ⟨by rw [read_is HF3.out HF5.out HF1.out (HF2.out.symm) q2 q3 q4]; rfl, HBZ.out⟩
      | false =>
        go_upto_region 8 with (fail)
        refine wp_region_lit ?_
        refine wpList_load_row rfl 24 (.tmp 5) rfl g rfl 24 (akC ⟨(f.first : Int), nuI s f.la f.ln, nuI s f.ba f.bn, r1, (0 : Int), nuI s f.wa f.wn, (0 : Int)⟩) (0, 0) _ HY.out Tryd.underlying24 rfl sizeA ?_
        refine wpList_store_row rfl 24 (.tmp 4) (.tmp 61) rfl (p + 1) (akC ⟨(f.first : Int), nuI s f.la f.ln, nuI s f.ba f.bn, r1, (0 : Int), nuI s f.wa f.wn, (0 : Int)⟩) rfl rfl 24 (akC zA) HR.out sizeA rfl (akC_one _) ?_
        have HZ := Lib.hid (setRow_blk (cs' := akC ⟨(f.first : Int), nuI s f.la f.ln, nuI s f.ba f.bn, r1, (0 : Int), nuI s f.wa f.wn, (0 : Int)⟩) HR.out)
        have HBZ := Lib.hid (below_setRow HB.out (by have := HP.out; omega) (akC ⟨(f.first : Int), nuI s f.la f.ln, nuI s f.ba f.bn, r1, (0 : Int), nuI s f.wa f.wn, (0 : Int)⟩) (g := p + 1))
        generalize x2.setRow (p + 1) (akC ⟨(f.first : Int), nuI s f.la f.ln, nuI s f.ba f.bn, r1, (0 : Int), nuI s f.wa f.wn, (0 : Int)⟩) = vz at *
        go_wp2_with (fail)
        refine bodyPost_ret_by (results_cell_row rfl _ _ (p + 1) 24 (akC ⟨(f.first : Int), nuI s f.la f.ln, nuI s f.ba f.bn, r1, (0 : Int), nuI s f.wa f.wn, (0 : Int)⟩) (0, 0) _ rfl HZ.out Tryd.underlying24 rfl sizeA) rfl ?_
        exact ⟨by rw [read_is HF3.out HF5.out HF1.out (HF2.out.symm) q2 q3 q4]; rfl, HBZ.out⟩
end Go.Proofs.YtaachlijpgmjeaaDoor
