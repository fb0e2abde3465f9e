/- The document's list of units. -/
import Derived.Test.YtgncllhhajjnlaaInC
import Derived.Lib.ConvBytes
import Derived.Deep.DeepCutAuto
namespace Go.Proofs.Ytgncllhhajjnlaa
open Go.RowKit
theorem rowsL_size : ∀ n, (rowsL n).size = 8 * n
  | 0 => rfl
  | n + 1 => by show (rowsL n ++ rowL n).size = _; rw [ByteArray.size_append, rowsL_size n, show (rowL n).size = 8 by unfold rowL; rw [ByteArray.size_append, ByteArray.size_append, zerS_size]; rfl]; omega
abbrev c1 (y : UInt8) : Array Value := #[.int .u8 (y.toNat : Int)]
theorem conv1 (v : World) (g : Nat) (y : UInt8) (h : Blk v g 5 (c1 y)) : (convert 55 9 (.slice (some ⟨g, 0, none⟩) 1 1)).run Try.prog v = .ok (.string ⟨#[y]⟩) v :=
  run_convert_bytes_back (P := Try.prog) v 55 9 5 ⟨g, 0, none⟩ 1 [y] Try.underlying55 Try.underlying5 Try.underlying9 (fun j hj => by
    rw [Addr.add_lit, Nat.zero_add]
    match j, hj with
    | 0, _ => rw [h.cell]; rfl)
set_option maxRecDepth 100000 in
set_option maxHeartbeats 4000000 in
theorem list_in (M : Nat) (hM : M ≤ 256) (w : World) : Calls Try.prog 14 #[.int .i64 (M : Int)] w fun e w' => e = .returned (.string (putHi (8 * M) ((4 : Nat) : Int) ++ zerS 4 ++ rowsL M)) ∧ Below w.heap.size w w' := by
  have HP := Lib.hid (fun v => refPutBig_any (8 * M) ((4 : Nat) : Int) v (by omega))
  have HQ := Lib.hid (fun v => refZeros_any 4 (by decide) v)
  obtain ⟨T, hT⟩ : ∃ z, z = putHi (8 * M) ((4 : Nat) : Int) ++ zerS 4 := ⟨_, rfl⟩
  have HT := Lib.hid hT
  have a1 : (putHi (8 * M) ((4 : Nat) : Int)).size = 4 := putHi_size _ 4 (by decide) (by decide)
  have a2 : (zerS 4).size = 4 := zerS_size 4
  have a3 : ¬ 9223372036854775807 < (putHi (8 * M) ((4 : Nat) : Int)).size + (zerS 4).size := by omega
  have HTS := Lib.hid (show T.size = 8 by rw [hT, ByteArray.size_append, a1, a2])
  have HTT := Lib.hid (show putHi (8 * M) ((4 : Nat) : Int) ++ zerS 4 = T ++ rowsL 0 by rw [← hT]; exact (ByteArray.append_empty (b := T)).symm)
  have e1 : IntKind.i64.wrap (8 * (M : Int)) = ((8 * M : Nat) : Int) := by rw [IntWalk.i64_in _ (by omega)]; omega
  have e2 : IntKind.u64.wrap ((8 * M : Nat) : Int) = ((8 * M : Nat) : Int) := IntWalk.u64_in _ (by omega)
  have q0 : ¬ (M : Int) < 0 := by omega
  have q1 : ¬ (256 : Int) < (M : Int) := by omega
  clear hT
  generalize zerS 4 = z4 at *
  generalize hp4 : putHi (8 * M) ((4 : Nat) : Int) = p4 at *
  clear hp4
  go_enter Try.func14, Try.ntmps14
  go_wp2_with (fail)
  refine (HP.out _).mono ?_; rintro e w1 ⟨rfl, hb⟩
  have HB := Lib.hid hb; clear hb
  go_wp2_with (fail)
  refine (HQ.out _).mono ?_; rintro e w2 ⟨rfl, hb⟩
  replace HB := Lib.hid (HB.out.trans (hb.mono HB.out.size)); clear hb
  go_wp2_with (fail)
  go_loopw [3, 4] (fun s i wr => ∃ k : Nat, k ≤ M ∧ s = .string (T ++ rowsL k) ∧ i = .int .i64 k ∧ Hid (Below w.heap.size w wr)) (fun _ i _ => M - (intOf i).toNat)
  case atStart => exact ⟨0, by omega, by rw [HTT.out], rfl, HB⟩
  case round =>
    clear HB
    obtain ⟨k, hk, rfl, rfl, HB⟩ := hrel
    by_cases hkM : (k : Int) < (M : Int)
    · obtain ⟨y, hy⟩ : ∃ y : UInt8, y = UInt8.ofNat k := ⟨_, rfl⟩
      have hwk : IntKind.u8.wrap (k : Int) = (y.toNat : Int) := by rw [hy, IntKind.wrap_u8, UInt8.toNat_ofNat']; omega
      obtain ⟨sA, hsA⟩ : ∃ z : ByteArray, z = ⟨#[y]⟩ := ⟨_, rfl⟩
      have HSA := Lib.hid hsA
      have HRK := Lib.hid (show (⟨#[0]⟩ : ByteArray) ++ sA ++ zerS 6 = rowL k by rw [hsA, hy]; rfl)
      have HNX := Lib.hid (show T ++ rowsL k ++ rowL k = T ++ rowsL (k + 1) from ByteArray.append_assoc ..)
      have hs1 : (⟨#[0]⟩ : ByteArray).size = 1 := rfl
      have hs2 : sA.size = 1 := by rw [hsA]; rfl
      have hs3 : (⟨#[0]⟩ ++ sA : ByteArray).size = 2 := by rw [ByteArray.size_append, hs1, hs2]
      have hs4 : (zerS 6).size = 6 := zerS_size 6
      have hs5 : (rowL k).size = 8 := by rw [← HRK.out, ByteArray.size_append, hs3, hs4]
      have hs6 : (T ++ rowsL k).size = 8 + 8 * k := by rw [ByteArray.size_append, HTS.out, rowsL_size]
      have hc1 : ¬ 9223372036854775807 < (⟨#[0]⟩ : ByteArray).size + sA.size := by omega
      have hc2 : ¬ 9223372036854775807 < (⟨#[0]⟩ ++ sA : ByteArray).size + (zerS 6).size := by omega
      have hc3 : ¬ 9223372036854775807 < (T ++ rowsL k).size + (rowL k).size := by omega
      have hc4 : ¬ 9223372036854775807 < 8 + 8 * k + 8 := by omega
      have HZ6 := Lib.hid (fun v => refZeros_any 6 (by decide) v)
      clear hsA hy
      generalize zerS 6 = z6 at *
      generalize rowL k = rk at *
      generalize T ++ rowsL k = tk at *
      go_upto_region 7 with (fail)
      apply sh1 (fun v _ => Below w.heap.size w v)
      · intro HSH
        refine wp_region_held_drew (S := fun _ => True) (by kernel_rfl) ?_ (fun hHeld => ?_)
        · trivial
        have HBd := Lib.hid HB.out.drew
        generalize wr.drew = x0 at *
        refine takeH (i := 0) (v := ?_) rfl (by kernel_rfl) (by kernel_rfl) (by kernel_rfl) (fun _ _ _ h => h) (some 22) rfl (Or.inl ⟨by rfl, ?_⟩) (by assumption) ?_
        rotate_left 1
        · intro wz hSw
          go_simp
          try with_reducible rfl
        simp only [Act.put, List.setIfInBounds_toArray, List.set_cons_zero, List.set_cons_succ]
        refine takeH (i := 1) (v := ?_) rfl (by kernel_rfl) (by kernel_rfl) (by kernel_rfl) (fun _ _ _ h => h) (some 23) rfl (Or.inl ⟨by rfl, ?_⟩) (by assumption) ?_
        rotate_left 1
        · intro wz hSw
          go_simp
          try with_reducible rfl
        simp only [Act.put, List.setIfInBounds_toArray, List.set_cons_zero, List.set_cons_succ]
        refine takeH (i := 2) (v := ?_) rfl (by kernel_rfl) (by kernel_rfl) (by kernel_rfl) (fun _ _ _ h => h) (some 24) rfl (Or.inl ⟨by rfl, ?_⟩) (by assumption) ?_
        rotate_left 1
        · intro wz hSw
          go_simp
          try with_reducible rfl
        simp only [Act.put, List.setIfInBounds_toArray, List.set_cons_zero, List.set_cons_succ]
        refine wpAnyH_ready (rs := [3, 6]) (by kernel_rfl) (by simp) ?_
        refine AllReadyH.cons rfl (fun KK hKK => ?_) ?_
        · skip
          refine step_alloc (by rfl) (.slice (some ⟨x0.heap.size, 0, none⟩) 1 1) (x0.alloc (.cells (c1 y) 5)) (by go_simp) (some 25) rfl ?_
          skip
          refine hKK.out _ _ ?_ (fun hHeld => ?_)
          · exact trivial
          clear hKK KK
          simp only [Act.put, List.setIfInBounds_toArray, List.set_cons_zero, List.set_cons_succ]
          change wpAnyH _ _ _ _ _ _ _ _ (x0.alloc (.cells (c1 y) 5))
          have hb := (Below.refl x0.heap.size x0).alloc (Nat.le_refl _) (.cells (c1 y) 5)
          have HGx1 := Lib.hid (Blk.new x0 5 (c1 y))
          have HBx1 := Lib.hid (HBd.out.trans (hb.mono HBd.out.size))
          clear hb
          generalize x0.alloc (.cells (c1 y) 5) = x1 at *
          obtain ⟨g1, hg⟩ : ∃ g, g = x0.heap.size := ⟨_, rfl⟩
          skip
          rw [← hg] at HGx1 ⊢; clear hg
          refine wpAnyH_ready (rs := [4, 6]) (by kernel_rfl) (by simp) ?_
          refine AllReadyH.cons rfl (fun KK hKK => ?_) ?_
          · skip
            have hcv := conv1 x1 g1 y HGx1.out
            rw [← HSA.out] at hcv
            refine step_alloc (by rfl) (.string sA) x1 (by go_simp) (some 26) rfl ?_
            clear hcv
            refine hKK.out _ _ trivial (fun hHeld => ?_)
            clear hKK KK
            simp only [Act.put, List.setIfInBounds_toArray, List.set_cons_zero, List.set_cons_succ]
            refine takeH (i := 5) (v := ?_) rfl (by kernel_rfl) (by kernel_rfl) (by kernel_rfl) (fun _ _ _ h => h) (some 27) rfl (Or.inl ⟨by rfl, ?_⟩) (by assumption) ?_
            rotate_left 1
            · intro wz hSw
              go_simp
              try with_reducible rfl
            simp only [Act.put, List.setIfInBounds_toArray, List.set_cons_zero, List.set_cons_succ]
            refine wpAnyH_ready (rs := [6]) (by kernel_rfl) (by simp) ?_
            refine AllReadyH.cons rfl (fun KK hKK => ?_) AllReadyH.nil
            refine step_call1 (by rfl) 26 _ _ (by rfl) _ (by rfl) (fun _ _ => rfl) _ (HZ6.out x1) (some 28) rfl ?_
            rintro e x2 ⟨rfl, hb⟩
            refine ⟨_, rfl, ?_⟩
            have HBx2 := Lib.hid (HBx1.out.trans (hb.mono HBx1.out.size))
            have HGx2 := Lib.hid (HGx1.out.below hb HGx1.out.lt)
            clear hb
            refine hKK.out _ _ ?_ (fun hHeld => ?_)
            · exact trivial
            clear hKK KK
            simp only [Act.put, List.setIfInBounds_toArray, List.set_cons_zero, List.set_cons_succ]
            refine takeH (i := 7) (v := ?_) rfl (by kernel_rfl) (by kernel_rfl) (by kernel_rfl) (fun _ _ _ h => h) (some 29) rfl (Or.inl ⟨by rfl, ?_⟩) (by assumption) ?_
            rotate_left 1
            · intro wz hSw
              go_simp
              try with_reducible rfl
            simp only [Act.put, List.setIfInBounds_toArray, List.set_cons_zero, List.set_cons_succ]
            rw [HRK.out]
            refine takeH (i := 8) (v := ?_) rfl (by kernel_rfl) (by kernel_rfl) (by kernel_rfl) (fun _ _ _ h => h) (some 30) rfl (Or.inl ⟨by rfl, ?_⟩) (by assumption) ?_
            rotate_left 1
            · intro wz hSw
              go_simp
              try with_reducible rfl
            simp only [Act.put, List.setIfInBounds_toArray, List.set_cons_zero, List.set_cons_succ]
            refine takeH (i := 9) (v := ?_) rfl (by kernel_rfl) (by kernel_rfl) (by kernel_rfl) (fun _ _ _ h => h) (some 3) rfl (Or.inl ⟨by rfl, ?_⟩) (by assumption) ?_
            rotate_left 1
            · intro wz hSw
              go_simp
              try with_reducible rfl
            simp only [Act.put, List.setIfInBounds_toArray, List.set_cons_zero, List.set_cons_succ]
            refine wpAnyH_done (by kernel_rfl) ?_ _
            exact HSH x2 g1 HBx2.out
          refine AllReadyH.cons rfl (fun KK hKK => ?_) ?_
          · skip
            refine step_call1 (by rfl) 26 _ _ (by rfl) _ (by rfl) (fun _ _ => rfl) _ (HZ6.out x1) (some 28) rfl ?_
            rintro e x3 ⟨rfl, hb⟩
            refine ⟨_, rfl, ?_⟩
            have HBx3 := Lib.hid (HBx1.out.trans (hb.mono HBx1.out.size))
            have HGx3 := Lib.hid (HGx1.out.below hb HGx1.out.lt)
            clear hb
            refine hKK.out _ _ ?_ (fun hHeld => ?_)
            · exact trivial
            clear hKK KK
            simp only [Act.put, List.setIfInBounds_toArray, List.set_cons_zero, List.set_cons_succ]
            refine wpAnyH_ready (rs := [4]) (by kernel_rfl) (by simp) ?_
            refine AllReadyH.cons rfl (fun KK hKK => ?_) AllReadyH.nil
            have hcv := conv1 x3 g1 y HGx3.out
            rw [← HSA.out] at hcv
            refine step_alloc (by rfl) (.string sA) x3 (by go_simp) (some 26) rfl ?_
            clear hcv
            refine hKK.out _ _ trivial (fun hHeld => ?_)
            clear hKK KK
            simp only [Act.put, List.setIfInBounds_toArray, List.set_cons_zero, List.set_cons_succ]
            refine takeH (i := 5) (v := ?_) rfl (by kernel_rfl) (by kernel_rfl) (by kernel_rfl) (fun _ _ _ h => h) (some 27) rfl (Or.inl ⟨by rfl, ?_⟩) (by assumption) ?_
            rotate_left 1
            · intro wz hSw
              go_simp
              try with_reducible rfl
            simp only [Act.put, List.setIfInBounds_toArray, List.set_cons_zero, List.set_cons_succ]
            refine takeH (i := 7) (v := ?_) rfl (by kernel_rfl) (by kernel_rfl) (by kernel_rfl) (fun _ _ _ h => h) (some 29) rfl (Or.inl ⟨by rfl, ?_⟩) (by assumption) ?_
            rotate_left 1
            · intro wz hSw
              go_simp
              try with_reducible rfl
            simp only [Act.put, List.setIfInBounds_toArray, List.set_cons_zero, List.set_cons_succ]
            rw [HRK.out]
            refine takeH (i := 8) (v := ?_) rfl (by kernel_rfl) (by kernel_rfl) (by kernel_rfl) (fun _ _ _ h => h) (some 30) rfl (Or.inl ⟨by rfl, ?_⟩) (by assumption) ?_
            rotate_left 1
            · intro wz hSw
              go_simp
              try with_reducible rfl
            simp only [Act.put, List.setIfInBounds_toArray, List.set_cons_zero, List.set_cons_succ]
            refine takeH (i := 9) (v := ?_) rfl (by kernel_rfl) (by kernel_rfl) (by kernel_rfl) (fun _ _ _ h => h) (some 3) rfl (Or.inl ⟨by rfl, ?_⟩) (by assumption) ?_
            rotate_left 1
            · intro wz hSw
              go_simp
              try with_reducible rfl
            simp only [Act.put, List.setIfInBounds_toArray, List.set_cons_zero, List.set_cons_succ]
            refine wpAnyH_done (by kernel_rfl) ?_ _
            exact HSH x3 g1 HBx3.out
          exact AllReadyH.nil
        refine AllReadyH.cons rfl (fun KK hKK => ?_) ?_
        · skip
          refine step_call1 (by rfl) 26 _ _ (by rfl) _ (by rfl) (fun _ _ => rfl) _ (HZ6.out x0) (some 28) rfl ?_
          rintro e x4 ⟨rfl, hb⟩
          refine ⟨_, rfl, ?_⟩
          have HBx4 := Lib.hid (HBd.out.trans (hb.mono HBd.out.size))
          clear hb
          refine hKK.out _ _ ?_ (fun hHeld => ?_)
          · exact trivial
          clear hKK KK
          simp only [Act.put, List.setIfInBounds_toArray, List.set_cons_zero, List.set_cons_succ]
          refine wpAnyH_ready (rs := [3]) (by kernel_rfl) (by simp) ?_
          refine AllReadyH.cons rfl (fun KK hKK => ?_) AllReadyH.nil
          refine step_alloc (by rfl) (.slice (some ⟨x4.heap.size, 0, none⟩) 1 1) (x4.alloc (.cells (c1 y) 5)) (by go_simp) (some 25) rfl ?_
          skip
          refine hKK.out _ _ ?_ (fun hHeld => ?_)
          · exact trivial
          clear hKK KK
          simp only [Act.put, List.setIfInBounds_toArray, List.set_cons_zero, List.set_cons_succ]
          change wpAnyH _ _ _ _ _ _ _ _ (x4.alloc (.cells (c1 y) 5))
          have hb := (Below.refl x4.heap.size x4).alloc (Nat.le_refl _) (.cells (c1 y) 5)
          have HGx5 := Lib.hid (Blk.new x4 5 (c1 y))
          have HBx5 := Lib.hid (HBx4.out.trans (hb.mono HBx4.out.size))
          clear hb
          generalize x4.alloc (.cells (c1 y) 5) = x5 at *
          obtain ⟨g1, hg⟩ : ∃ g, g = x4.heap.size := ⟨_, rfl⟩
          skip
          rw [← hg] at HGx5 ⊢; clear hg
          refine wpAnyH_ready (rs := [4]) (by kernel_rfl) (by simp) ?_
          refine AllReadyH.cons rfl (fun KK hKK => ?_) AllReadyH.nil
          have hcv := conv1 x5 g1 y HGx5.out
          rw [← HSA.out] at hcv
          refine step_alloc (by rfl) (.string sA) x5 (by go_simp) (some 26) rfl ?_
          clear hcv
          refine hKK.out _ _ trivial (fun hHeld => ?_)
          clear hKK KK
          simp only [Act.put, List.setIfInBounds_toArray, List.set_cons_zero, List.set_cons_succ]
          refine takeH (i := 5) (v := ?_) rfl (by kernel_rfl) (by kernel_rfl) (by kernel_rfl) (fun _ _ _ h => h) (some 27) rfl (Or.inl ⟨by rfl, ?_⟩) (by assumption) ?_
          rotate_left 1
          · intro wz hSw
            go_simp
            try with_reducible rfl
          simp only [Act.put, List.setIfInBounds_toArray, List.set_cons_zero, List.set_cons_succ]
          refine takeH (i := 7) (v := ?_) rfl (by kernel_rfl) (by kernel_rfl) (by kernel_rfl) (fun _ _ _ h => h) (some 29) rfl (Or.inl ⟨by rfl, ?_⟩) (by assumption) ?_
          rotate_left 1
          · intro wz hSw
            go_simp
            try with_reducible rfl
          simp only [Act.put, List.setIfInBounds_toArray, List.set_cons_zero, List.set_cons_succ]
          rw [HRK.out]
          refine takeH (i := 8) (v := ?_) rfl (by kernel_rfl) (by kernel_rfl) (by kernel_rfl) (fun _ _ _ h => h) (some 30) rfl (Or.inl ⟨by rfl, ?_⟩) (by assumption) ?_
          rotate_left 1
          · intro wz hSw
            go_simp
            try with_reducible rfl
          simp only [Act.put, List.setIfInBounds_toArray, List.set_cons_zero, List.set_cons_succ]
          refine takeH (i := 9) (v := ?_) rfl (by kernel_rfl) (by kernel_rfl) (by kernel_rfl) (fun _ _ _ h => h) (some 3) rfl (Or.inl ⟨by rfl, ?_⟩) (by assumption) ?_
          rotate_left 1
          · intro wz hSw
            go_simp
            try with_reducible rfl
          simp only [Act.put, List.setIfInBounds_toArray, List.set_cons_zero, List.set_cons_succ]
          refine wpAnyH_done (by kernel_rfl) ?_ _
          exact HSH x5 g1 HBx5.out
        exact AllReadyH.nil
      rintro v2 g1 hB2
      clear HB
      have HB := Lib.hid hB2
      clear hB2
      go_wp2_with (fail)
      go_roundw
      case rel => exact ⟨k + 1, by omega, by rw [HNX.out], by go_num, HB⟩
      case measure => simp [intOf]; omega
    · have HKM := Lib.hid (show k = M by omega)
      clear hkM
      have hkM : ¬ (k : Int) < (M : Int) := by rw [HKM.out]; omega
      go_wp2_with (fail)
      go_ret
      exact ⟨by rw [← HKM.out, ← HT.out]; rfl, HB.out⟩
set_option maxRecDepth 100000 in
theorem list_neg (n : Int) (h : n < 0) (w : World) : Calls Try.prog 14 #[.int .i64 n] w fun e w' => e = .returned (.string (putHi 0 ((4 : Nat) : Int) ++ zerS 4)) ∧ Below w.heap.size w w' := by
  have HP := Lib.hid (fun v => refPutBig_any 0 ((4 : Nat) : Int) v (by omega))
  have HQ := Lib.hid (fun v => refZeros_any 4 (by decide) v)
  have a1 : (putHi 0 ((4 : Nat) : Int)).size = 4 := putHi_size _ 4 (by decide) (by decide)
  have a2 : (zerS 4).size = 4 := zerS_size 4
  generalize zerS 4 = z4 at *
  generalize putHi 0 ((4 : Nat) : Int) = p4 at *
  go_enter Try.func14, Try.ntmps14
  go_wp2_with (fail)
  refine (HP.out _).mono ?_; rintro e w1 ⟨rfl, hb⟩
  have HB := Lib.hid hb; clear hb
  go_wp2_with (fail)
  refine (HQ.out _).mono ?_; rintro e w2 ⟨rfl, hb⟩
  replace HB := Lib.hid (HB.out.trans (hb.mono HB.out.size)); clear hb
  go_wp2_with (fail)
  go_loopw [3, 4] (fun s i wr => s = .string (p4 ++ z4) ∧ i = .int .i64 0 ∧ Hid (Below w.heap.size w wr)) (fun _ _ _ => 0)
  case atStart => exact ⟨rfl, rfl, HB⟩
  case round =>
    clear HB
    obtain ⟨rfl, rfl, HB⟩ := hrel
    go_wp2_with (fail)
    go_ret
    exact ⟨rfl, HB.out⟩
set_option maxRecDepth 100000 in
theorem list_big (n : Int) (h : 256 < n) (w : World) : Calls Try.prog 14 #[.int .i64 n] w fun e w' => e = .returned (.string (putHi 0 ((4 : Nat) : Int) ++ zerS 4)) ∧ Below w.heap.size w w' := by
  have h0 : ¬ n < 0 := by omega
  have HP := Lib.hid (fun v => refPutBig_any 0 ((4 : Nat) : Int) v (by omega))
  have HQ := Lib.hid (fun v => refZeros_any 4 (by decide) v)
  have a1 : (putHi 0 ((4 : Nat) : Int)).size = 4 := putHi_size _ 4 (by decide) (by decide)
  have a2 : (zerS 4).size = 4 := zerS_size 4
  generalize zerS 4 = z4 at *
  generalize putHi 0 ((4 : Nat) : Int) = p4 at *
  go_enter Try.func14, Try.ntmps14
  go_wp2_with (fail)
  refine (HP.out _).mono ?_; rintro e w1 ⟨rfl, hb⟩
  have HB := Lib.hid hb; clear hb
  go_wp2_with (fail)
  refine (HQ.out _).mono ?_; rintro e w2 ⟨rfl, hb⟩
  replace HB := Lib.hid (HB.out.trans (hb.mono HB.out.size)); clear hb
  go_wp2_with (fail)
  go_loopw [3, 4] (fun s i wr => s = .string (p4 ++ z4) ∧ i = .int .i64 0 ∧ Hid (Below w.heap.size w wr)) (fun _ _ _ => 0)
  case atStart => exact ⟨rfl, rfl, HB⟩
  case round =>
    clear HB
    obtain ⟨rfl, rfl, HB⟩ := hrel
    go_wp2_with (fail)
    go_ret
    exact ⟨rfl, HB.out⟩
theorem refList_any (n : Int) (w : World) : Calls Try.prog 14 #[.int .i64 n] w fun e w' => e = .returned (.string (listS n)) ∧ Below w.heap.size w w' := by
  unfold listS
  by_cases h0 : n < 0
  · rw [if_pos (Or.inl h0)]
    have h := list_neg n h0 w
    rw [show putHi 0 ((4 : Nat) : Int) ++ zerS 4 = putHi (8 * 0) ((4 : Nat) : Int) ++ zerS 4 ++ rowsL 0 from (ByteArray.append_empty (b := _)).symm] at h
    exact h
  · by_cases h1 : 256 < n
    · rw [if_pos (Or.inr h1)]
      have h := list_big n h1 w
      rw [show putHi 0 ((4 : Nat) : Int) ++ zerS 4 = putHi (8 * 0) ((4 : Nat) : Int) ++ zerS 4 ++ rowsL 0 from (ByteArray.append_empty (b := _)).symm] at h
      exact h
    · rw [if_neg (by omega)]
      obtain ⟨M, rfl⟩ : ∃ M : Nat, n = (M : Int) := ⟨n.toNat, by omega⟩
      exact list_in M (by omega) w
end Go.Proofs.Ytgncllhhajjnlaa
