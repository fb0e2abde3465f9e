/- A block that is cut off, or has a byte more, or whose last byte is not 0: the statement. -/
import Derived.Test.YtaachlijpgmjeaaDoorCdP
import Derived.Lib.ConvBytes
namespace Go.Proofs.YtaachlijpgmjeaaDoor
open Go.RowKit
theorem ext_size {s : ByteArray} {k : Nat} (hk : k ≤ s.size) : (s.extract 0 k).size = k := by rw [ByteArray.size_extract]; omega
theorem ext_byt {s : ByteArray} {k i : Nat} (hi : i < k) : byt (s.extract 0 k) i = byt s i := by
  unfold byt
  rw [ext_list, List.drop_zero, List.getD_eq_getElem?_getD, List.getD_eq_getElem?_getD, List.getElem?_take_of_lt hi]
/-- A text of one byte. -/
def oneS (y : UInt8) : ByteArray := ⟨#[y]⟩
theorem conv_one (v : World) (g : Nat) (y : UInt8) (h : Blk v g 5 #[.int .u8 (y.toNat : Int)]) :
    Sem.run Tryd.prog (convert 43 9 (Value.slice (some { block := g, off := 0 }) 1 1)) v = Result.ok (Value.string (oneS y)) v := by
  have := run_convert_bytes_back (P := Tryd.prog) v 43 9 5 ⟨g, 0, none⟩ 1 [y] Tryd.underlying43 Tryd.underlying5 Tryd.underlying9 (fun j hj => by
    rw [Addr.add_lit, Nat.zero_add]
    match j, hj with
    | 0, _ => rw [h.cell]; rfl)
  exact this
theorem one_byt (y : UInt8) : byt (oneS y) 0 = y.toNat := rfl
theorem more_no {t : ByteArray} {x : Ak} (h : parseS t = some x) (y : UInt8) : parseS (t ++ oneS y) = none := by
  obtain ⟨_, t6, _, _, _⟩ := blk_len (parse_blk h).1
  exact more_none (parse_blk h).1 _ (by rw [size_app]; rfl) (byt_app_left _ _ _ (by omega))
theorem last_at {t : ByteArray} {x : Ak} (h : parseS t = some x) (y : UInt8) : ((parseS (t.extract 0 (t.size - 1) ++ oneS y)).isSome = true) ↔ y.toNat = 0 := by
  obtain ⟨_, t6, _, _, _⟩ := blk_len (parse_blk h).1
  have hz : (t.extract 0 (t.size - 1)).size = t.size - 1 := ext_size (by omega)
  have hl := last_iff h (t.extract 0 (t.size - 1) ++ oneS y) (by rw [size_app, hz]; show t.size - 1 + 1 = t.size; omega) (fun i hi => by rw [byt_app_left _ _ _ (by omega)]; exact ext_byt hi)
  rw [hl]
  have : byt (t.extract 0 (t.size - 1) ++ oneS y) (t.size - 1) = y.toNat := by
    have := byt_app_right (t.extract 0 (t.size - 1)) (oneS y) 0
    rw [hz, Nat.add_zero] at this
    rw [this]; rfl
  rw [this]
set_option maxRecDepth 100000 in
set_option maxHeartbeats 16000000 in
theorem short_any (P : Code15) (x : Ak) (hx : Bnd x) (at_ : Int) (y : UInt8) (w : World) (ht15 : FT w) : Calls Tryd.prog 6 #[akV x, .int .i64 at_, .int .u8 (y.toNat : Int)] w fun e w' => e = .returned (.bool true) ∧ Below w.heap.size w w' := by
  have HFT := Lib.hid ht15
  clear ht15
  have HW := Lib.hid (fun v (hv : FT v) => wakes_any P v hv)
  obtain ⟨h1, h2⟩ := one_box w 24 x
  have HX0 := Lib.hid h1; have HB0 := Lib.hid h2
  clear h1 h2
  cases hbx : buildS x with
  | none =>
    have HQ : Hid (∀ v, FT v → Calls Tryd.prog 15 #[akV x] v fun e w' => e = .returned (.tuple #[.string ⟨#[]⟩, .int .i64 150]) ∧ Below v.heap.size v w') := Lib.hid (fun v hv => by have h := P.build x v hv hx; rw [hbx] at h; exact h)
    clear hbx P hx
    go_enter Tryd.func6, Tryd.ntmps6
    go_upto_region 1 with (fail)
    change Code.wp _ _ _ _ (w.alloc (.cells (akC x) 24))
    generalize w.alloc (.cells (akC x) 24) = v0 at *
    obtain ⟨px, hpx⟩ : ∃ px, px = w.heap.size := ⟨_, rfl⟩
    have HPX := Lib.hid hpx
    rw [← hpx] at HX0 ⊢
    clear hpx
    have c0 : v0.cell? ⟨px, 0, none⟩ = some (.int .i64 x.op) := HX0.out.cell 0
    have c1 : v0.cell? ⟨px, 1, none⟩ = some (.int .i64 x.lba) := HX0.out.cell 1
    have c2 : v0.cell? ⟨px, 2, none⟩ = some (.int .i64 x.blk) := HX0.out.cell 2
    have c3 : v0.cell? ⟨px, 3, none⟩ = some (.bool x.fu) := HX0.out.cell 3
    have c4 : v0.cell? ⟨px, 4, none⟩ = some (.int .i64 x.page) := HX0.out.cell 4
    have c5 : v0.cell? ⟨px, 5, none⟩ = some (.int .i64 x.want) := HX0.out.cell 5
    have c6 : v0.cell? ⟨px, 6, none⟩ = some (.int .i64 x.ty) := HX0.out.cell 6
    go_wp2_with (fail)
    refine (HQ.out v0 (ft HFT (by assumption))).mono ?_; rintro e v1 ⟨rfl, hb⟩
    have HB1 := Lib.hid (HB0.out.trans (hb.mono HB0.out.size)); clear hb c0 c1 c2 c3 c4 c5 c6
    go_wp2_with (fail)
    refine (HW.out v1 (ft HFT (by assumption))).mono ?_; rintro e v2 ⟨rfl, hb⟩
    have HB2 := Lib.hid (HB1.out.trans (hb.mono HB1.out.size)); clear hb
    go_wp2_with (fail)
    go_ret
    exact ⟨rfl, HB2.out⟩
  | some t =>
    have HQ : Hid (∀ v, FT v → Calls Tryd.prog 15 #[akV x] v fun e w' => e = .returned (.tuple #[.string t, .int .i64 0]) ∧ Below v.heap.size v w') := Lib.hid (fun v hv => by have h := P.build x v hv hx; rw [hbx] at h; exact h)
    obtain ⟨t1, _⟩ := build_parse hbx
    obtain ⟨_, t6, t16, _, _⟩ := blk_len (parse_blk t1).1
    obtain ⟨e1, e2⟩ := empty_no' (s := t) (by omega)
    obtain ⟨k, hk, hkl⟩ := size_at at_ (t.size : Int) (by omega)
    have hu : IntKind.u64.wrap (t.size : Int) = (t.size : Int) := IntWalk.u64_in _ (by omega)
    have k0 : (0 : Int) ≤ k := by omega
    have k1 : (k : Int) ≤ t.size := by omega
    have hb1 := (parse_blk t1).1
    have hcut : parseS (t.extract 0 k) = none := cut_none hb1 (k := k) (by omega) _ (ext_size (by omega)) (fun i hi => ext_byt hi)
    have HPK : Hid (∀ v, FT v → Calls Tryd.prog 9 #[.string (t.extract 0 k)] v fun e w' => e = .returned (.tuple #[akV zA, .int .i64 150]) ∧ Below v.heap.size v w') := Lib.hid (fun v hv => by have h := P.parse (t.extract 0 k) v hv (by rw [ext_size (by omega)]; omega); rw [hcut] at h; exact h)
    have hmore := more_no t1 y
    have HPM : Hid (∀ v, FT v → Calls Tryd.prog 9 #[.string (t ++ oneS y)] v fun e w' => e = .returned (.tuple #[akV zA, .int .i64 150]) ∧ Below v.heap.size v w') := Lib.hid (fun v hv => by have h := P.parse (t ++ oneS y) v hv (by rw [size_app]; show t.size + 1 ≤ 100000; omega); rw [hmore] at h; exact h)
    obtain ⟨s3, hs3⟩ : ∃ s3, s3 = t.extract 0 (t.size - 1) ++ oneS y := ⟨_, rfl⟩
    obtain ⟨z3, hz3⟩ : ∃ z3, z3 = ansA (parseS s3) := ⟨_, rfl⟩
    obtain ⟨e3, he3⟩ : ∃ e3, e3 = errA (parseS s3) := ⟨_, rfl⟩
    have HPL : Hid (∀ v, FT v → Calls Tryd.prog 9 #[.string s3] v fun e w' => e = .returned (.tuple #[akV z3, .int .i64 e3]) ∧ Below v.heap.size v w') := Lib.hid (fun v hv => by rw [hz3, he3]; exact P.parse s3 v hv (by rw [hs3, size_app, ext_size (by omega)]; show t.size - 1 + 1 ≤ 100000; omega))
    have hlast := last_at t1 y
    rw [← hs3] at hlast
    have HE3 := Lib.hid (show ((e3 == 0) == ((y.toNat : Int) == 0)) = true by
      rw [he3]
      unfold errA
      by_cases hy : y.toNat = 0
      · rw [if_pos (hlast.2 hy), hy]; rfl
      · rw [if_neg (fun h => hy (hlast.1 h)), show ((y.toNat : Int) == 0) = false from by rw [beqI]; exact decide_eq_false (by omega)]; rfl)
    have HT1 := Lib.hid t1; have HS3 := Lib.hid hs3
    clear hbx t1 hb1 hcut hmore hlast hz3 he3 hs3 hx
    go_enter Tryd.func6, Tryd.ntmps6
    go_upto_region 1 with (fail)
    change Code.wp _ _ _ _ (w.alloc (.cells (akC x) 24))
    generalize w.alloc (.cells (akC x) 24) = v0 at *
    obtain ⟨px, hpx⟩ : ∃ px, px = w.heap.size := ⟨_, rfl⟩
    have HPX := Lib.hid hpx
    rw [← hpx] at HX0 ⊢
    clear hpx
    have c0 : v0.cell? ⟨px, 0, none⟩ = some (.int .i64 x.op) := HX0.out.cell 0
    have c1 : v0.cell? ⟨px, 1, none⟩ = some (.int .i64 x.lba) := HX0.out.cell 1
    have c2 : v0.cell? ⟨px, 2, none⟩ = some (.int .i64 x.blk) := HX0.out.cell 2
    have c3 : v0.cell? ⟨px, 3, none⟩ = some (.bool x.fu) := HX0.out.cell 3
    have c4 : v0.cell? ⟨px, 4, none⟩ = some (.int .i64 x.page) := HX0.out.cell 4
    have c5 : v0.cell? ⟨px, 5, none⟩ = some (.int .i64 x.want) := HX0.out.cell 5
    have c6 : v0.cell? ⟨px, 6, none⟩ = some (.int .i64 x.ty) := HX0.out.cell 6
    go_wp2_with (fail)
    refine (HQ.out v0 (ft HFT (by assumption))).mono ?_; rintro e v1 ⟨rfl, hb⟩
    have HB1 := Lib.hid (HB0.out.trans (hb.mono HB0.out.size)); clear hb c0 c1 c2 c3 c4 c5 c6
    go_wp2_with (fail)
    refine (HPK.out v1 (ft HFT (by assumption))).mono ?_; rintro e v2 ⟨rfl, hb⟩
    have HB2 := Lib.hid (HB1.out.trans (hb.mono HB1.out.size)); clear hb
    go_upto_region 8 with (fail)
    change Code.wp _ _ _ _ (v2.alloc (.cells (akC zA) 24))
    have hal := (Below.refl v2.heap.size v2).alloc (Nat.le_refl _) (.cells (akC zA) 24)
    have HK3 := Lib.hid (Blk.new v2 24 (akC zA)); have HB3 := Lib.hid (HB2.out.trans (hal.mono HB2.out.size))
    obtain ⟨pk, hp⟩ : ∃ p, p = v2.heap.size := ⟨_, rfl⟩
    rw [← hp] at HK3 ⊢
    clear hal hp 
    generalize v2.alloc (.cells (akC zA) 24) = v3 at *
    clear HK3
    have hos : (oneS y).size = 1 := rfl
    have hcat : (t.size : Int) + 1 ≤ 9223372036854775807 := by omega
    have hcat2 : ¬ (9223372036854775807 : Int) < (t.size : Int) + 1 := by omega
    have hcat3 : ((t.size + 1 : Nat) : Int) ≤ IntKind.i64.max := by show ((t.size + 1 : Nat) : Int) ≤ 9223372036854775807; omega
    have hcv := conv_one (v3.alloc (.cells #[.int .u8 (y.toNat : Int)] 5)) v3.heap.size y (Blk.new v3 5 _)
    have hal2 := (Below.refl v3.heap.size v3).alloc (Nat.le_refl _) (.cells #[.int .u8 (y.toNat : Int)] 5)
    go_wp2_with (fail)
    refine (HPM.out _ (HFT.out.below (HB3.out.trans (hal2.mono HB3.out.size)))).mono ?_; rintro e v4 ⟨rfl, hb⟩
    have HB4 := Lib.hid (HB3.out.trans ((hal2.trans (hb.mono hal2.size)).mono HB3.out.size)); clear hb hcv hal2
    go_upto_region 9 with (fail)
    change Code.wp _ _ _ _ (v4.alloc (.cells (akC zA) 24))
    have hal := (Below.refl v4.heap.size v4).alloc (Nat.le_refl _) (.cells (akC zA) 24)
    have HK5 := Lib.hid (Blk.new v4 24 (akC zA)); have HB5 := Lib.hid (HB4.out.trans (hal.mono HB4.out.size))
    obtain ⟨pm, hp⟩ : ∃ p, p = v4.heap.size := ⟨_, rfl⟩
    rw [← hp] at HK5 ⊢
    clear hal hp 
    generalize v4.alloc (.cells (akC zA) 24) = v5 at *
    clear HK5
    go_upto_region 9 with (fail)
    have hw1 : IntKind.i64.wrap ((t.size : Int) - 1) = (t.size : Int) - 1 := IntWalk.i64_in _ (by omega)
    have kk0 : (0 : Int) ≤ (t.size : Int) - 1 := by omega
    have kk1 : (t.size : Int) - 1 ≤ t.size := by omega
    have hos1 : ((t.size : Int) - 1).toNat = t.size - 1 := by omega
    have kk2 : (1 : Int) ≤ (t.size : Int) := by omega
    have hex : (t.extract 0 (t.size - 1)).size = t.size - 1 := ext_size (by omega)
    have hcat4 : ((t.size - 1 : Nat) : Int) + 1 ≤ 9223372036854775807 := by omega
    have hcat5 : ¬ (9223372036854775807 : Int) < ((t.size - 1 : Nat) : Int) + 1 := by omega
    have hcat7 : t.size - 1 + 1 ≤ 9223372036854775807 := by omega
    have hcat8 : ¬ 9223372036854775807 < t.size - 1 + 1 := by omega
    have hcat6 : ((t.size - 1 + 1 : Nat) : Int) ≤ IntKind.i64.max := by show ((t.size - 1 + 1 : Nat) : Int) ≤ 9223372036854775807; omega
    have HBx0 := Lib.hid (show Below w.heap.size w v5.drew from HB5.out.drew)
    refine wp_region_any (by kernel_rfl) ?_
    change wpAny _ _ _ _ _ _ _ (World.drew v5)
    rename_i KRx hKRx
    generalize v5.drew = x0 at *
    apply share3 (fun v _ _ => Below w.heap.size w v)
    · intro HSH
      refine take_at (i := 0) (v := ?_) rfl (by kernel_rfl) (by kernel_rfl) (by kernel_rfl) (fun _ _ _ h => h) (some 54) rfl (Or.inl ⟨by rfl, ?_⟩) ?_
      rotate_left 1
      · intro w; go_simp; try with_reducible rfl
      simp only [Act.put, List.setIfInBounds_toArray, List.set_cons_zero, List.set_cons_succ]
      refine take_at (i := 1) (v := ?_) rfl (by kernel_rfl) (by kernel_rfl) (by kernel_rfl) (fun _ _ _ h => h) (some 55) rfl (Or.inl ⟨by rfl, ?_⟩) ?_
      rotate_left 1
      · intro w; go_simp; try with_reducible rfl
      simp only [Act.put, List.setIfInBounds_toArray, List.set_cons_zero, List.set_cons_succ]
      refine take_at (i := 2) (v := ?_) rfl (by kernel_rfl) (by kernel_rfl) (by kernel_rfl) (fun _ _ _ h => h) (some 56) rfl (Or.inl ⟨by rfl, ?_⟩) ?_
      rotate_left 1
      · intro w; go_simp; try with_reducible rfl
      simp only [Act.put, List.setIfInBounds_toArray, List.set_cons_zero, List.set_cons_succ]
      refine take_at (i := 3) (v := ?_) rfl (by kernel_rfl) (by kernel_rfl) (by kernel_rfl) (fun _ _ _ h => h) (some 57) rfl (Or.inl ⟨by rfl, ?_⟩) ?_
      rotate_left 1
      · intro w; go_simp; try with_reducible rfl
      simp only [Act.put, List.setIfInBounds_toArray, List.set_cons_zero, List.set_cons_succ]
      refine take_at (i := 4) (v := ?_) rfl (by kernel_rfl) (by kernel_rfl) (by kernel_rfl) (fun _ _ _ h => h) (some 58) rfl (Or.inl ⟨by rfl, ?_⟩) ?_
      rotate_left 1
      · intro w; go_simp; try with_reducible rfl
      simp only [Act.put, List.setIfInBounds_toArray, List.set_cons_zero, List.set_cons_succ]
      refine take_at (i := 5) (v := ?_) rfl (by kernel_rfl) (by kernel_rfl) (by kernel_rfl) (fun _ _ _ h => h) (some 59) rfl (Or.inl ⟨by rfl, ?_⟩) ?_
      rotate_left 1
      · intro w; go_simp; try with_reducible rfl
      simp only [Act.put, List.setIfInBounds_toArray, List.set_cons_zero, List.set_cons_succ]
      refine wpAny_ready (rs := [6, 13]) (by kernel_rfl) (by simp) ?_
      refine AllReady.cons rfl (fun KK hKK => ?_) ?_
      · skip
        go_simp
        refine hKK _ _ ?_; clear hKK KK; try simp only [Act.put, List.setIfInBounds_toArray, List.set_cons_zero, List.set_cons_succ]
        change wpAny _ _ _ _ _ _ _ (x0.alloc (.cells #[.int .u8 (y.toNat : Int)] 5))
        have hal := (Below.refl x0.heap.size x0).alloc (Nat.le_refl _) (.cells #[.int .u8 (y.toNat : Int)] 5)
        have HBx1 := Lib.hid ((HBx0.out).trans (hal.mono (HBx0.out).size)); have HG1 := Lib.hid (Blk.new x0 5 #[.int .u8 (y.toNat : Int)])
        clear hal
        generalize x0.alloc (.cells #[.int .u8 (y.toNat : Int)] 5) = x1 at *
        obtain ⟨g, hg⟩ : ∃ g, g = x0.heap.size := ⟨_, rfl⟩
        rw [← hg] at HG1  ⊢; clear hg
        refine wpAny_ready (rs := [7, 13]) (by kernel_rfl) (by simp) ?_
        refine AllReady.cons rfl (fun KK hKK => ?_) ?_
        · skip
          have hcv := conv_one x1 g y HG1.out
          go_simp
          refine hKK _ _ ?_; clear hKK KK hcv; try simp only [Act.put, List.setIfInBounds_toArray, List.set_cons_zero, List.set_cons_succ]
          refine take_at (i := 8) (v := ?_) rfl (by kernel_rfl) (by kernel_rfl) (by kernel_rfl) (fun _ _ _ h => h) (some 62) rfl (Or.inl ⟨by rfl, ?_⟩) ?_
          rotate_left 1
          · intro w; go_simp; try with_reducible rfl
          simp only [Act.put, List.setIfInBounds_toArray, List.set_cons_zero, List.set_cons_succ]
          refine wpAny_ready (rs := [9, 13]) (by kernel_rfl) (by simp) ?_
          refine AllReady.cons rfl (fun KK hKK => ?_) ?_
          · skip
            rw [← HS3.out]
            refine step_call1 (by rfl) 9 (.tmp 62) _ (by rfl) (.string s3) (by rfl) (fun _ _ => rfl) _ (HPL.out x1 (ft HFT (by assumption))) (some 63) rfl ?_
            rintro e x2 ⟨rfl, hb⟩
            refine ⟨_, rfl, ?_⟩
            have HBx2 := Lib.hid ((HBx1.out).trans (hb.mono (HBx1.out).size))
            clear hb; refine hKK _ _ ?_; clear hKK KK; simp only [Act.put, List.setIfInBounds_toArray, List.set_cons_zero, List.set_cons_succ]
            refine take_at (i := 10) (v := ?_) rfl (by kernel_rfl) (by kernel_rfl) (by kernel_rfl) (fun _ _ _ h => h) (some 53) rfl (Or.inl ⟨by rfl, ?_⟩) ?_
            rotate_left 1
            · intro w; go_simp; try with_reducible rfl
            simp only [Act.put, List.setIfInBounds_toArray, List.set_cons_zero, List.set_cons_succ]
            refine take_at (i := 11) (v := ?_) rfl (by kernel_rfl) (by kernel_rfl) (by kernel_rfl) (fun _ _ _ h => h) (some 64) rfl (Or.inl ⟨by rfl, ?_⟩) ?_
            rotate_left 1
            · intro w; go_simp; try with_reducible rfl
            simp only [Act.put, List.setIfInBounds_toArray, List.set_cons_zero, List.set_cons_succ]
            refine take_at (i := 12) (v := ?_) rfl (by kernel_rfl) (by kernel_rfl) (by kernel_rfl) (fun _ _ _ h => h) (some 65) rfl (Or.inl ⟨by rfl, ?_⟩) ?_
            rotate_left 1
            · intro w; go_simp; try with_reducible rfl
            simp only [Act.put, List.setIfInBounds_toArray, List.set_cons_zero, List.set_cons_succ]
            refine wpAny_ready (rs := [13]) (by kernel_rfl) (by simp) ?_
            refine AllReady.cons rfl (fun KK hKK => ?_) ?_
            · skip
              go_simp
              refine hKK _ _ ?_; clear hKK KK; try simp only [Act.put, List.setIfInBounds_toArray, List.set_cons_zero, List.set_cons_succ]
              change wpAny _ _ _ _ _ _ _ (x2.alloc (.cells (akC zA) 24))
              have hal := (Below.refl x2.heap.size x2).alloc (Nat.le_refl _) (.cells (akC zA) 24)
              have HBx3 := Lib.hid ((HBx2.out).trans (hal.mono (HBx2.out).size)); have HP3 := Lib.hid (Blk.new x2 24 (akC zA))
              have HQ := Lib.hid ((HBx2.out).size)
              clear hal
              generalize x2.alloc (.cells (akC zA) 24) = x3 at *
              obtain ⟨p, hg⟩ : ∃ g, g = x2.heap.size := ⟨_, rfl⟩
              rw [← hg] at HP3 HQ ⊢; clear hg
              refine wpAny_ready (rs := [14]) (by kernel_rfl) (by simp) ?_
              refine AllReady.cons rfl (fun KK hKK => ?_) AllReady.nil
              refine step_store (by rfl) 24 (.tmp 14) (.tmp 64) (by rfl) _ (akC z3) (by rfl) (by rfl) 24 (akC zA) HP3.out sizeA rfl (akC_one _) none rfl ?_
              intro v hbk hon
              have HX := (HBx3.out).trans (hon.toBelow (HBx3.out).size (fun k hk => by rw [hk]; exact HQ.out))
              clear hbk hon; refine hKK _ _ ?_; clear hKK KK; simp only [Act.put]
              refine take_at (i := 15) (v := ?_) rfl (by kernel_rfl) (by kernel_rfl) (by kernel_rfl) (fun _ _ _ h => h) (some 15) rfl (Or.inl ⟨by rfl, ?_⟩) ?_
              rotate_left 1
              · intro w; go_simp; try with_reducible rfl
              simp only [Act.put, List.setIfInBounds_toArray, List.set_cons_zero, List.set_cons_succ]
              refine wpAny_done (by kernel_rfl) ?_ _
              exact HSH v p g HX
            exact AllReady.nil
          refine AllReady.cons rfl (fun KK hKK => ?_) ?_
          · skip
            go_simp
            refine hKK _ _ ?_; clear hKK KK; try simp only [Act.put, List.setIfInBounds_toArray, List.set_cons_zero, List.set_cons_succ]
            change wpAny _ _ _ _ _ _ _ (x1.alloc (.cells (akC zA) 24))
            have hal := (Below.refl x1.heap.size x1).alloc (Nat.le_refl _) (.cells (akC zA) 24)
            have HBx4 := Lib.hid ((HBx1.out).trans (hal.mono (HBx1.out).size)); have HP4 := Lib.hid (Blk.new x1 24 (akC zA))
            have HQ := Lib.hid ((HBx1.out).size)
            clear hal
            generalize x1.alloc (.cells (akC zA) 24) = x4 at *
            obtain ⟨p, hg⟩ : ∃ g, g = x1.heap.size := ⟨_, rfl⟩
            rw [← hg] at HP4 HQ ⊢; clear hg
            refine wpAny_ready (rs := [9]) (by kernel_rfl) (by simp) ?_
            refine AllReady.cons rfl (fun KK hKK => ?_) ?_
            · skip
              rw [← HS3.out]
              refine step_call1 (by rfl) 9 (.tmp 62) _ (by rfl) (.string s3) (by rfl) (fun _ _ => rfl) _ (HPL.out x4 (ft HFT (by assumption))) (some 63) rfl ?_
              rintro e x5 ⟨rfl, hb⟩
              refine ⟨_, rfl, ?_⟩
              have HBx5 := Lib.hid ((HBx4.out).trans (hb.mono (HBx4.out).size))
              have HP5 := Lib.hid (HP4.out.below hb HP4.out.lt)
              clear hb; refine hKK _ _ ?_; clear hKK KK; simp only [Act.put, List.setIfInBounds_toArray, List.set_cons_zero, List.set_cons_succ]
              refine take_at (i := 10) (v := ?_) rfl (by kernel_rfl) (by kernel_rfl) (by kernel_rfl) (fun _ _ _ h => h) (some 53) rfl (Or.inl ⟨by rfl, ?_⟩) ?_
              rotate_left 1
              · intro w; go_simp; try with_reducible rfl
              simp only [Act.put, List.setIfInBounds_toArray, List.set_cons_zero, List.set_cons_succ]
              refine take_at (i := 11) (v := ?_) rfl (by kernel_rfl) (by kernel_rfl) (by kernel_rfl) (fun _ _ _ h => h) (some 64) rfl (Or.inl ⟨by rfl, ?_⟩) ?_
              rotate_left 1
              · intro w; go_simp; try with_reducible rfl
              simp only [Act.put, List.setIfInBounds_toArray, List.set_cons_zero, List.set_cons_succ]
              refine take_at (i := 12) (v := ?_) rfl (by kernel_rfl) (by kernel_rfl) (by kernel_rfl) (fun _ _ _ h => h) (some 65) rfl (Or.inl ⟨by rfl, ?_⟩) ?_
              rotate_left 1
              · intro w; go_simp; try with_reducible rfl
              simp only [Act.put, List.setIfInBounds_toArray, List.set_cons_zero, List.set_cons_succ]
              refine wpAny_ready (rs := [14]) (by kernel_rfl) (by simp) ?_
              refine AllReady.cons rfl (fun KK hKK => ?_) AllReady.nil
              refine step_store (by rfl) 24 (.tmp 14) (.tmp 64) (by rfl) _ (akC z3) (by rfl) (by rfl) 24 (akC zA) HP5.out sizeA rfl (akC_one _) none rfl ?_
              intro v hbk hon
              have HX := (HBx5.out).trans (hon.toBelow (HBx5.out).size (fun k hk => by rw [hk]; exact HQ.out))
              clear hbk hon; refine hKK _ _ ?_; clear hKK KK; simp only [Act.put]
              refine take_at (i := 15) (v := ?_) rfl (by kernel_rfl) (by kernel_rfl) (by kernel_rfl) (fun _ _ _ h => h) (some 15) rfl (Or.inl ⟨by rfl, ?_⟩) ?_
              rotate_left 1
              · intro w; go_simp; try with_reducible rfl
              simp only [Act.put, List.setIfInBounds_toArray, List.set_cons_zero, List.set_cons_succ]
              refine wpAny_done (by kernel_rfl) ?_ _
              exact HSH v p g HX
            exact AllReady.nil
          exact AllReady.nil
        refine AllReady.cons rfl (fun KK hKK => ?_) ?_
        · skip
          go_simp
          refine hKK _ _ ?_; clear hKK KK; try simp only [Act.put, List.setIfInBounds_toArray, List.set_cons_zero, List.set_cons_succ]
          change wpAny _ _ _ _ _ _ _ (x1.alloc (.cells (akC zA) 24))
          have hal := (Below.refl x1.heap.size x1).alloc (Nat.le_refl _) (.cells (akC zA) 24)
          have HBx6 := Lib.hid ((HBx1.out).trans (hal.mono (HBx1.out).size)); have HP6 := Lib.hid (Blk.new x1 24 (akC zA))
          have HQ := Lib.hid ((HBx1.out).size)
          have HG6 := Lib.hid (HG1.out.below hal HG1.out.lt)
          clear hal
          generalize x1.alloc (.cells (akC zA) 24) = x6 at *
          obtain ⟨p, hg⟩ : ∃ g, g = x1.heap.size := ⟨_, rfl⟩
          rw [← hg] at HP6 HQ ⊢; clear hg
          refine wpAny_ready (rs := [7]) (by kernel_rfl) (by simp) ?_
          refine AllReady.cons rfl (fun KK hKK => ?_) ?_
          · skip
            have hcv := conv_one x6 g y HG6.out
            go_simp
            refine hKK _ _ ?_; clear hKK KK hcv; try simp only [Act.put, List.setIfInBounds_toArray, List.set_cons_zero, List.set_cons_succ]
            refine take_at (i := 8) (v := ?_) rfl (by kernel_rfl) (by kernel_rfl) (by kernel_rfl) (fun _ _ _ h => h) (some 62) rfl (Or.inl ⟨by rfl, ?_⟩) ?_
            rotate_left 1
            · intro w; go_simp; try with_reducible rfl
            simp only [Act.put, List.setIfInBounds_toArray, List.set_cons_zero, List.set_cons_succ]
            refine wpAny_ready (rs := [9]) (by kernel_rfl) (by simp) ?_
            refine AllReady.cons rfl (fun KK hKK => ?_) ?_
            · skip
              rw [← HS3.out]
              refine step_call1 (by rfl) 9 (.tmp 62) _ (by rfl) (.string s3) (by rfl) (fun _ _ => rfl) _ (HPL.out x6 (ft HFT (by assumption))) (some 63) rfl ?_
              rintro e x7 ⟨rfl, hb⟩
              refine ⟨_, rfl, ?_⟩
              have HBx7 := Lib.hid ((HBx6.out).trans (hb.mono (HBx6.out).size))
              have HP7 := Lib.hid (HP6.out.below hb HP6.out.lt)
              clear hb; refine hKK _ _ ?_; clear hKK KK; simp only [Act.put, List.setIfInBounds_toArray, List.set_cons_zero, List.set_cons_succ]
              refine take_at (i := 10) (v := ?_) rfl (by kernel_rfl) (by kernel_rfl) (by kernel_rfl) (fun _ _ _ h => h) (some 53) rfl (Or.inl ⟨by rfl, ?_⟩) ?_
              rotate_left 1
              · intro w; go_simp; try with_reducible rfl
              simp only [Act.put, List.setIfInBounds_toArray, List.set_cons_zero, List.set_cons_succ]
              refine take_at (i := 11) (v := ?_) rfl (by kernel_rfl) (by kernel_rfl) (by kernel_rfl) (fun _ _ _ h => h) (some 64) rfl (Or.inl ⟨by rfl, ?_⟩) ?_
              rotate_left 1
              · intro w; go_simp; try with_reducible rfl
              simp only [Act.put, List.setIfInBounds_toArray, List.set_cons_zero, List.set_cons_succ]
              refine take_at (i := 12) (v := ?_) rfl (by kernel_rfl) (by kernel_rfl) (by kernel_rfl) (fun _ _ _ h => h) (some 65) rfl (Or.inl ⟨by rfl, ?_⟩) ?_
              rotate_left 1
              · intro w; go_simp; try with_reducible rfl
              simp only [Act.put, List.setIfInBounds_toArray, List.set_cons_zero, List.set_cons_succ]
              refine wpAny_ready (rs := [14]) (by kernel_rfl) (by simp) ?_
              refine AllReady.cons rfl (fun KK hKK => ?_) AllReady.nil
              refine step_store (by rfl) 24 (.tmp 14) (.tmp 64) (by rfl) _ (akC z3) (by rfl) (by rfl) 24 (akC zA) HP7.out sizeA rfl (akC_one _) none rfl ?_
              intro v hbk hon
              have HX := (HBx7.out).trans (hon.toBelow (HBx7.out).size (fun k hk => by rw [hk]; exact HQ.out))
              clear hbk hon; refine hKK _ _ ?_; clear hKK KK; simp only [Act.put]
              refine take_at (i := 15) (v := ?_) rfl (by kernel_rfl) (by kernel_rfl) (by kernel_rfl) (fun _ _ _ h => h) (some 15) rfl (Or.inl ⟨by rfl, ?_⟩) ?_
              rotate_left 1
              · intro w; go_simp; try with_reducible rfl
              simp only [Act.put, List.setIfInBounds_toArray, List.set_cons_zero, List.set_cons_succ]
              refine wpAny_done (by kernel_rfl) ?_ _
              exact HSH v p g HX
            exact AllReady.nil
          exact AllReady.nil
        exact AllReady.nil
      refine AllReady.cons rfl (fun KK hKK => ?_) ?_
      · skip
        go_simp
        refine hKK _ _ ?_; clear hKK KK; try simp only [Act.put, List.setIfInBounds_toArray, List.set_cons_zero, List.set_cons_succ]
        change wpAny _ _ _ _ _ _ _ (x0.alloc (.cells (akC zA) 24))
        have hal := (Below.refl x0.heap.size x0).alloc (Nat.le_refl _) (.cells (akC zA) 24)
        have HBx8 := Lib.hid ((HBx0.out).trans (hal.mono (HBx0.out).size)); have HP8 := Lib.hid (Blk.new x0 24 (akC zA))
        have HQ := Lib.hid ((HBx0.out).size)
        clear hal
        generalize x0.alloc (.cells (akC zA) 24) = x8 at *
        obtain ⟨p, hg⟩ : ∃ g, g = x0.heap.size := ⟨_, rfl⟩
        rw [← hg] at HP8 HQ ⊢; clear hg
        refine wpAny_ready (rs := [6]) (by kernel_rfl) (by simp) ?_
        refine AllReady.cons rfl (fun KK hKK => ?_) ?_
        · skip
          go_simp
          refine hKK _ _ ?_; clear hKK KK; try simp only [Act.put, List.setIfInBounds_toArray, List.set_cons_zero, List.set_cons_succ]
          change wpAny _ _ _ _ _ _ _ (x8.alloc (.cells #[.int .u8 (y.toNat : Int)] 5))
          have hal := (Below.refl x8.heap.size x8).alloc (Nat.le_refl _) (.cells #[.int .u8 (y.toNat : Int)] 5)
          have HBx9 := Lib.hid ((HBx8.out).trans (hal.mono (HBx8.out).size)); have HG9 := Lib.hid (Blk.new x8 5 #[.int .u8 (y.toNat : Int)])
          have HP9 := Lib.hid (HP8.out.below hal HP8.out.lt)
          clear hal
          generalize x8.alloc (.cells #[.int .u8 (y.toNat : Int)] 5) = x9 at *
          obtain ⟨g, hg⟩ : ∃ g, g = x8.heap.size := ⟨_, rfl⟩
          rw [← hg] at HG9  ⊢; clear hg
          refine wpAny_ready (rs := [7]) (by kernel_rfl) (by simp) ?_
          refine AllReady.cons rfl (fun KK hKK => ?_) ?_
          · skip
            have hcv := conv_one x9 g y HG9.out
            go_simp
            refine hKK _ _ ?_; clear hKK KK hcv; try simp only [Act.put, List.setIfInBounds_toArray, List.set_cons_zero, List.set_cons_succ]
            refine take_at (i := 8) (v := ?_) rfl (by kernel_rfl) (by kernel_rfl) (by kernel_rfl) (fun _ _ _ h => h) (some 62) rfl (Or.inl ⟨by rfl, ?_⟩) ?_
            rotate_left 1
            · intro w; go_simp; try with_reducible rfl
            simp only [Act.put, List.setIfInBounds_toArray, List.set_cons_zero, List.set_cons_succ]
            refine wpAny_ready (rs := [9]) (by kernel_rfl) (by simp) ?_
            refine AllReady.cons rfl (fun KK hKK => ?_) ?_
            · skip
              rw [← HS3.out]
              refine step_call1 (by rfl) 9 (.tmp 62) _ (by rfl) (.string s3) (by rfl) (fun _ _ => rfl) _ (HPL.out x9 (ft HFT (by assumption))) (some 63) rfl ?_
              rintro e x10 ⟨rfl, hb⟩
              refine ⟨_, rfl, ?_⟩
              have HBx10 := Lib.hid ((HBx9.out).trans (hb.mono (HBx9.out).size))
              have HP10 := Lib.hid (HP9.out.below hb HP9.out.lt)
              clear hb; refine hKK _ _ ?_; clear hKK KK; simp only [Act.put, List.setIfInBounds_toArray, List.set_cons_zero, List.set_cons_succ]
              refine take_at (i := 10) (v := ?_) rfl (by kernel_rfl) (by kernel_rfl) (by kernel_rfl) (fun _ _ _ h => h) (some 53) rfl (Or.inl ⟨by rfl, ?_⟩) ?_
              rotate_left 1
              · intro w; go_simp; try with_reducible rfl
              simp only [Act.put, List.setIfInBounds_toArray, List.set_cons_zero, List.set_cons_succ]
              refine take_at (i := 11) (v := ?_) rfl (by kernel_rfl) (by kernel_rfl) (by kernel_rfl) (fun _ _ _ h => h) (some 64) rfl (Or.inl ⟨by rfl, ?_⟩) ?_
              rotate_left 1
              · intro w; go_simp; try with_reducible rfl
              simp only [Act.put, List.setIfInBounds_toArray, List.set_cons_zero, List.set_cons_succ]
              refine take_at (i := 12) (v := ?_) rfl (by kernel_rfl) (by kernel_rfl) (by kernel_rfl) (fun _ _ _ h => h) (some 65) rfl (Or.inl ⟨by rfl, ?_⟩) ?_
              rotate_left 1
              · intro w; go_simp; try with_reducible rfl
              simp only [Act.put, List.setIfInBounds_toArray, List.set_cons_zero, List.set_cons_succ]
              refine wpAny_ready (rs := [14]) (by kernel_rfl) (by simp) ?_
              refine AllReady.cons rfl (fun KK hKK => ?_) AllReady.nil
              refine step_store (by rfl) 24 (.tmp 14) (.tmp 64) (by rfl) _ (akC z3) (by rfl) (by rfl) 24 (akC zA) HP10.out sizeA rfl (akC_one _) none rfl ?_
              intro v hbk hon
              have HX := (HBx10.out).trans (hon.toBelow (HBx10.out).size (fun k hk => by rw [hk]; exact HQ.out))
              clear hbk hon; refine hKK _ _ ?_; clear hKK KK; simp only [Act.put]
              refine take_at (i := 15) (v := ?_) rfl (by kernel_rfl) (by kernel_rfl) (by kernel_rfl) (fun _ _ _ h => h) (some 15) rfl (Or.inl ⟨by rfl, ?_⟩) ?_
              rotate_left 1
              · intro w; go_simp; try with_reducible rfl
              simp only [Act.put, List.setIfInBounds_toArray, List.set_cons_zero, List.set_cons_succ]
              refine wpAny_done (by kernel_rfl) ?_ _
              exact HSH v p g HX
            exact AllReady.nil
          exact AllReady.nil
        exact AllReady.nil
      exact AllReady.nil
    intro v9 p9 g9 HB9
    refine hKRx _ _ ?_
    clear hKRx KRx
    have HB9' := Lib.hid HB9
    clear HB9
    have q9 := HE3.out
    go_wp2_with (fail)
    refine (HW.out v9 (ft HFT (by assumption))).mono ?_; rintro e v10 ⟨rfl, hb⟩
    have HBA := Lib.hid (HB9'.out.trans (hb.mono HB9'.out.size)); clear hb
    go_wp2_with (fail)
    go_ret
    exact ⟨rfl, HBA.out⟩
end Go.Proofs.YtaachlijpgmjeaaDoor
