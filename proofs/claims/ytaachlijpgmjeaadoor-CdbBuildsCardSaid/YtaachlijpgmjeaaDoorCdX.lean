/- What the code makes of a text: how long a block is, and what it asks. -/
import Derived.Test.YtaachlijpgmjeaaDoorCdW
import Derived.Test.YtaachlijpgmjeaaDoorCdK
namespace Go.Proofs.YtaachlijpgmjeaaDoor
open Go.RowKit
theorem foV_yes {b : Int} {i : Nat} (h : fmI b = some i) : foV (fmI b) = .tuple #[fmV (fm i), .bool true] := by rw [h]; rfl
theorem foV_no {b : Int} (h : fmI b = none) : foV (fmI b) = .tuple #[fmV zF, .bool false] := by rw [h]; rfl
theorem len_code {s : ByteArray} (h : s.size ≠ 0) : lenS s = match fmI (byt s 0) with | some i => (fm i).size | none => 0 := by
  rw [lenS_yes h]
  have hl := byt_lt s 0
  generalize byt s 0 = b at *
  exact (by decide +kernel : ∀ b : Nat, b < 256 → lenB b = match fmI (b : Int) with | some i => (fm i).size | none => 0) b hl
theorem fm_size {i : Nat} (h : i < 14) : 6 ≤ (fm i).size ∧ (fm i).size ≤ 16 := (by decide +kernel : ∀ i, i < 14 → 6 ≤ (fm i).size ∧ (fm i).size ≤ 16) i h
theorem length_any (s : ByteArray) (w : World) (ht : FT w) : Calls Tryd.prog 13 #[.string s] w fun e w' => e = .returned (.int .i64 (lenS s : Int)) ∧ Below w.heap.size w w' := by
  have HB := Lib.hid (Below.refl w.heap.size w)
  by_cases h0 : s.size = 0
  · have HL := Lib.hid (lenS_no h0)
    obtain ⟨e1, e2⟩ := empty_yes' h0
    clear h0
    go_enter Tryd.func13, Tryd.ntmps13
    go_wp2_with (fail)
    go_ret
    exact ⟨by rw [HL.out]; rfl, HB.out⟩
  · have HL := Lib.hid (len_code h0)
    obtain ⟨e1, e2⟩ := empty_no' h0
    have hi := fun w => index_byt s 0 0 rfl (by omega) w
    have hb := byt_lt s 0
    clear h0
    generalize lenS s = n at *
    generalize byt s 0 = b at *
    have hw : IntKind.i64.wrap (b : Int) = (b : Int) := IntWalk.i64_in _ (by omega)
    have HC := Lib.hid (fun v (hv : FT v) => formOf_any (b : Int) v hv)
    have HT := Lib.hid ht
    obtain ⟨f, o, hf, hn⟩ : ∃ f o, foV (fmI (b : Int)) = .tuple #[fmV f, .bool o] ∧ n = f.size := by
      cases h : fmI (b : Int) with
      | none => exact ⟨zF, false, rfl, by rw [HL.out, h]; rfl⟩
      | some i => exact ⟨fm i, true, rfl, by rw [HL.out, h]⟩
    rw [hf] at HC
    subst hn
    clear hf HL ht hb
    go_enter Tryd.func13, Tryd.ntmps13
    go_wp2_with (fail)
    refine (HC.out _ HT.out).mono ?_; rintro e v1 ⟨rfl, hb⟩
    have HB1 := Lib.hid hb; clear hb HB
    go_upto_region 4 with (fail)
    change Code.wp _ _ _ _ (v1.alloc (.cells (fmC f) 51))
    have hal := (Below.refl v1.heap.size v1).alloc (Nat.le_refl _) (.cells (fmC f) 51)
    have HX := Lib.hid (Blk.new v1 51 (fmC f)); have HB2 := Lib.hid (HB1.out.trans (hal.mono HB1.out.size))
    obtain ⟨p, hp⟩ : ∃ p, p = v1.heap.size := ⟨_, rfl⟩
    rw [← hp] at HX ⊢
    clear hal hp
    generalize v1.alloc (.cells (fmC f) 51) = v2 at *
    have c1 : v2.cell? ⟨p, 1, none⟩ = some (.int .i64 (f.size : Int)) := HX.out.cell 1
    go_wp2_with (fail)
    go_ret
    exact ⟨rfl, HB2.out⟩
theorem split_any (n : Int) (w : World) (hn : -9223372036854775808 ≤ n ∧ n ≤ 9223372036854775807) : Calls Tryd.prog 26 #[.int .i64 n] w fun e w' => e = .returned (.tuple #[.int .i64 (if n < 256 then n else n / 256), .int .i64 (if n < 256 then 0 else n % 256)]) ∧ w = w' := by
  by_cases h : n < 256
  · rw [if_pos h, if_pos h]
    go_enter Tryd.func26, Tryd.ntmps26
    go_wp2_with (fail)
    go_ret2
    exact ⟨rfl, rfl⟩
  · rw [if_neg h, if_neg h]
    have e1 : n.tdiv 256 = n / 256 := Int.tdiv_eq_ediv_of_nonneg (by omega)
    have e2 : n.tmod 256 = n % 256 := Int.tmod_eq_emod_of_nonneg (by omega)
    have w1 : IntKind.i64.wrap (n.tdiv 256) = n / 256 := by rw [e1]; exact IntWalk.i64_in _ (by omega)
    have w2 : IntKind.i64.wrap (n.tmod 256) = n % 256 := by rw [e2]; exact IntWalk.i64_in _ (by omega)
    clear e1 e2
    generalize n / 256 = d at *
    go_enter Tryd.func26, Tryd.ntmps26
    go_wp2_with (fail)
    go_ret2
    exact ⟨rfl, rfl⟩
set_option maxRecDepth 100000 in
set_option maxHeartbeats 4000000 in
theorem parse_none (s : ByteArray) (w : World) (h : s.size = 0) : Calls Tryd.prog 9 #[.string s] w (AskOut none w) := by
  obtain ⟨e1, e2⟩ := empty_yes' h
  have HR0 := Lib.hid (Blk.new w 24 (akC zA))
  have HB0 := Lib.hid ((Below.refl w.heap.size w).alloc (Nat.le_refl _) (.cells (akC zA) 24))
  clear h
  go_enter Tryd.func9, Tryd.ntmps9
  go_upto_region 2 with (fail)
  change Code.wp _ _ _ _ (w.alloc (.cells (akC zA) 24))
  generalize w.alloc (.cells (akC zA) 24) = v0 at *
  obtain ⟨p, hp⟩ : ∃ p, p = w.heap.size := ⟨_, rfl⟩
  have HP := Lib.hid hp
  rw [← hp] at HR0 ⊢
  clear hp
  refine wp_region_lit ?_
  refine wpList_runs rfl (some 9) rfl (akV zA) v0 (by kernel_rfl) ?_
  refine wpList_store_row rfl 24 (.tmp 2) (.tmp 9) rfl p (akC zA) rfl rfl 24 (akC zA) HR0.out sizeA rfl (akC_one _) ?_
  have HZ := Lib.hid (setRow_blk (cs' := akC zA) HR0.out)
  have HBZ := Lib.hid (below_setRow HB0.out (by have := HP.out; omega) (akC zA) (g := p))
  generalize v0.setRow p (akC zA) = vz at *
  go_wp2_with (fail)
  refine bodyPost_ret_by (results_row1 rfl _ _ p 24 (akC zA) (0, 0) _ rfl HZ.out Tryd.underlying24 rfl sizeA) rfl ?_
  exact ⟨rfl, HBZ.out⟩
set_option maxRecDepth 100000 in
set_option maxHeartbeats 4000000 in
theorem parse_no1 (s : ByteArray) (w : World) (ht : FT w) (hs : s.size ≤ 100000) (h0 : s.size ≠ 0) (h : fmI (byt s 0 : Int) = none) : Calls Tryd.prog 9 #[.string s] w (AskOut none w) := by
  obtain ⟨e1, e2⟩ := empty_no' h0
  have hi := fun w => index_byt s 0 0 rfl (by omega) w
  have hb := byt_lt s 0
  have HC := Lib.hid (fun v (hv : FT v) => formOf_any (byt s 0 : Int) v hv)
  have HT := Lib.hid ht
  rw [foV_no h] at HC
  obtain ⟨f, hf⟩ : ∃ f, f = zF := ⟨_, rfl⟩
  rw [← hf] at HC
  clear h hf
  generalize byt s 0 = b at *
  have hw : IntKind.i64.wrap (b : Int) = (b : Int) := IntWalk.i64_in _ (by omega)
  have HR0 := Lib.hid (Blk.new w 24 (akC zA))
  have HB0 := Lib.hid ((Below.refl w.heap.size w).alloc (Nat.le_refl _) (.cells (akC zA) 24))
  clear ht hb h0
  go_enter Tryd.func9, Tryd.ntmps9
  go_upto_region 3 with (fail)
  change Code.wp _ _ _ _ (w.alloc (.cells (akC zA) 24))
  have HT0 := Lib.hid (ft HT HB0)
  generalize w.alloc (.cells (akC zA) 24) = v0 at *
  obtain ⟨p, hp⟩ : ∃ p, p = w.heap.size := ⟨_, rfl⟩
  have HP := Lib.hid hp
  rw [← hp] at HR0 ⊢
  clear hp
  go_wp2_with (fail)
  refine (HC.out _ HT0.out).mono ?_; rintro e v1 ⟨rfl, hb⟩
  have HB1 := Lib.hid (HB0.out.trans (hb.mono HB0.out.size)); have HR1 := Lib.hid (HR0.out.below hb HR0.out.lt); clear hb
  go_upto_region 4 with (fail)
  change Code.wp _ _ _ _ (v1.alloc (.cells (fmC f) 51))
  have hal := (Below.refl v1.heap.size v1).alloc (Nat.le_refl _) (.cells (fmC f) 51)
  have HX := Lib.hid (Blk.new v1 51 (fmC f)); have HB := Lib.hid (HB1.out.trans (hal.mono HB1.out.size)); have HR := Lib.hid (HR1.out.below hal HR1.out.lt)
  obtain ⟨g, hg⟩ : ∃ g, g = v1.heap.size := ⟨_, rfl⟩
  have HG := Lib.hid (show p < g by rw [hg]; exact HR1.out.lt)
  rw [← hg] at HX ⊢
  clear hal hg HB0 HB1 HR0 HR1
  generalize v1.alloc (.cells (fmC f) 51) = v2 at *
  have c1 : v2.cell? ⟨g, 1, none⟩ = some (.int .i64 (f.size : Int)) := HX.out.cell 1
  go_upto_region 5 with (fail)
  refine wp_region_lit ?_
  refine wpList_runs rfl (some 34) rfl (akV zA) v2 (by kernel_rfl) ?_
  refine wpList_store_row rfl 24 (.tmp 2) (.tmp 34) rfl p (akC zA) rfl rfl 24 (akC zA) HR.out sizeA rfl (akC_one _) ?_
  have HZ := Lib.hid (setRow_blk (cs' := akC zA) HR.out)
  have HBZ := Lib.hid (below_setRow HB.out (by have := HP.out; omega) (akC zA) (g := p))
  generalize v2.setRow p (akC zA) = vz at *
  go_wp2_with (fail)
  refine bodyPost_ret_by (results_row1 rfl _ _ p 24 (akC zA) (0, 0) _ rfl HZ.out Tryd.underlying24 rfl sizeA) rfl ?_
  exact ⟨rfl, HBZ.out⟩
set_option maxRecDepth 100000 in
set_option maxHeartbeats 4000000 in
theorem parse_no2 (s : ByteArray) (w : World) (ht : FT w) (hs : s.size ≤ 100000) (h0 : s.size ≠ 0) {i : Nat} (h : fmI (byt s 0 : Int) = some i) (HH : s.size ≠ (fm i).size) : Calls Tryd.prog 9 #[.string s] w (AskOut none w) := by
  obtain ⟨e1, e2⟩ := empty_no' h0
  have hi := fun w => index_byt s 0 0 rfl (by omega) w
  have hb := byt_lt s 0
  have HC := Lib.hid (fun v (hv : FT v) => formOf_any (byt s 0 : Int) v hv)
  have HT := Lib.hid ht
  rw [foV_yes h] at HC
  obtain ⟨f6, f16⟩ := fm_size (fmI_yes h).1
  have HOK := Lib.hid (fm_ok i (fmI_yes h).1)
  obtain ⟨f, hf⟩ : ∃ f, f = fm i := ⟨_, rfl⟩
  rw [← hf] at HC HOK f6 f16 HH
  clear h hf
  have q1 : ((s.size : Int) != (f.size : Int)) = true := by rw [bne_iff_ne]; omega
  generalize byt s 0 = b at *
  have hw : IntKind.i64.wrap (b : Int) = (b : Int) := IntWalk.i64_in _ (by omega)
  have HR0 := Lib.hid (Blk.new w 24 (akC zA))
  have HB0 := Lib.hid ((Below.refl w.heap.size w).alloc (Nat.le_refl _) (.cells (akC zA) 24))
  clear ht hb h0
  go_enter Tryd.func9, Tryd.ntmps9
  go_upto_region 3 with (fail)
  change Code.wp _ _ _ _ (w.alloc (.cells (akC zA) 24))
  have HT0 := Lib.hid (ft HT HB0)
  generalize w.alloc (.cells (akC zA) 24) = v0 at *
  obtain ⟨p, hp⟩ : ∃ p, p = w.heap.size := ⟨_, rfl⟩
  have HP := Lib.hid hp
  rw [← hp] at HR0 ⊢
  clear hp
  go_wp2_with (fail)
  refine (HC.out _ HT0.out).mono ?_; rintro e v1 ⟨rfl, hb⟩
  have HB1 := Lib.hid (HB0.out.trans (hb.mono HB0.out.size)); have HR1 := Lib.hid (HR0.out.below hb HR0.out.lt); clear hb
  go_upto_region 4 with (fail)
  change Code.wp _ _ _ _ (v1.alloc (.cells (fmC f) 51))
  have hal := (Below.refl v1.heap.size v1).alloc (Nat.le_refl _) (.cells (fmC f) 51)
  have HX := Lib.hid (Blk.new v1 51 (fmC f)); have HB := Lib.hid (HB1.out.trans (hal.mono HB1.out.size)); have HR := Lib.hid (HR1.out.below hal HR1.out.lt)
  obtain ⟨g, hg⟩ : ∃ g, g = v1.heap.size := ⟨_, rfl⟩
  have HG := Lib.hid (show p < g by rw [hg]; exact HR1.out.lt)
  rw [← hg] at HX ⊢
  clear hal hg HB0 HB1 HR0 HR1
  generalize v1.alloc (.cells (fmC f) 51) = v2 at *
  have c1 : v2.cell? ⟨g, 1, none⟩ = some (.int .i64 (f.size : Int)) := HX.out.cell 1
  go_upto_region 5 with (fail)
  refine wp_region_lit ?_
  refine wpList_runs rfl (some 34) rfl (akV zA) v2 (by kernel_rfl) ?_
  refine wpList_store_row rfl 24 (.tmp 2) (.tmp 34) rfl p (akC zA) rfl rfl 24 (akC zA) HR.out sizeA rfl (akC_one _) ?_
  have HZ := Lib.hid (setRow_blk (cs' := akC zA) HR.out)
  have HBZ := Lib.hid (below_setRow HB.out (by have := HP.out; omega) (akC zA) (g := p))
  generalize v2.setRow p (akC zA) = vz at *
  go_wp2_with (fail)
  refine bodyPost_ret_by (results_row1 rfl _ _ p 24 (akC zA) (0, 0) _ rfl HZ.out Tryd.underlying24 rfl sizeA) rfl ?_
  exact ⟨rfl, HBZ.out⟩
set_option maxRecDepth 100000 in
set_option maxHeartbeats 4000000 in
theorem parse_no3 (s : ByteArray) (w : World) (ht : FT w) (hs : s.size ≤ 100000) (h0 : s.size ≠ 0) {i : Nat} (h : fmI (byt s 0 : Int) = some i) (hz : s.size = (fm i).size) (HH : byt s ((fm i).size - 1) ≠ 0) : Calls Tryd.prog 9 #[.string s] w (AskOut none w) := by
  obtain ⟨e1, e2⟩ := empty_no' h0
  have hi := fun w => index_byt s 0 0 rfl (by omega) w
  have hb := byt_lt s 0
  have HC := Lib.hid (fun v (hv : FT v) => formOf_any (byt s 0 : Int) v hv)
  have HT := Lib.hid ht
  rw [foV_yes h] at HC
  obtain ⟨f6, f16⟩ := fm_size (fmI_yes h).1
  have HOK := Lib.hid (fm_ok i (fmI_yes h).1)
  obtain ⟨f, hf⟩ : ∃ f, f = fm i := ⟨_, rfl⟩
  rw [← hf] at hz HC HOK f6 f16 HH
  clear h hf
  have q1 : ((s.size : Int) != (f.size : Int)) = false := by rw [bne_eq_false_iff_eq]; omega
  have hj := fun w => index_byt s ((f.size : Int) - 1) (f.size - 1) (by omega) (by omega) w
  have hwz : IntKind.i64.wrap ((f.size : Int) - 1) = (f.size : Int) - 1 := IntWalk.i64_in _ (by omega)
  obtain ⟨z, hzz⟩ : ∃ z, z = byt s (f.size - 1) := ⟨_, rfl⟩
  rw [← hzz] at hj HH
  have q2 : ((z : Int) != 0) = true := by rw [bne_iff_ne]; omega
  clear hzz hz HH
  generalize byt s 0 = b at *
  have hw : IntKind.i64.wrap (b : Int) = (b : Int) := IntWalk.i64_in _ (by omega)
  have HR0 := Lib.hid (Blk.new w 24 (akC zA))
  have HB0 := Lib.hid ((Below.refl w.heap.size w).alloc (Nat.le_refl _) (.cells (akC zA) 24))
  clear ht hb h0
  go_enter Tryd.func9, Tryd.ntmps9
  go_upto_region 3 with (fail)
  change Code.wp _ _ _ _ (w.alloc (.cells (akC zA) 24))
  have HT0 := Lib.hid (ft HT HB0)
  generalize w.alloc (.cells (akC zA) 24) = v0 at *
  obtain ⟨p, hp⟩ : ∃ p, p = w.heap.size := ⟨_, rfl⟩
  have HP := Lib.hid hp
  rw [← hp] at HR0 ⊢
  clear hp
  go_wp2_with (fail)
  refine (HC.out _ HT0.out).mono ?_; rintro e v1 ⟨rfl, hb⟩
  have HB1 := Lib.hid (HB0.out.trans (hb.mono HB0.out.size)); have HR1 := Lib.hid (HR0.out.below hb HR0.out.lt); clear hb
  go_upto_region 4 with (fail)
  change Code.wp _ _ _ _ (v1.alloc (.cells (fmC f) 51))
  have hal := (Below.refl v1.heap.size v1).alloc (Nat.le_refl _) (.cells (fmC f) 51)
  have HX := Lib.hid (Blk.new v1 51 (fmC f)); have HB := Lib.hid (HB1.out.trans (hal.mono HB1.out.size)); have HR := Lib.hid (HR1.out.below hal HR1.out.lt)
  obtain ⟨g, hg⟩ : ∃ g, g = v1.heap.size := ⟨_, rfl⟩
  have HG := Lib.hid (show p < g by rw [hg]; exact HR1.out.lt)
  rw [← hg] at HX ⊢
  clear hal hg HB0 HB1 HR0 HR1
  generalize v1.alloc (.cells (fmC f) 51) = v2 at *
  have c1 : v2.cell? ⟨g, 1, none⟩ = some (.int .i64 (f.size : Int)) := HX.out.cell 1
  go_upto_region 5 with (fail)
  refine wp_region_lit ?_
  refine wpList_runs rfl (some 34) rfl (akV zA) v2 (by kernel_rfl) ?_
  refine wpList_store_row rfl 24 (.tmp 2) (.tmp 34) rfl p (akC zA) rfl rfl 24 (akC zA) HR.out sizeA rfl (akC_one _) ?_
  have HZ := Lib.hid (setRow_blk (cs' := akC zA) HR.out)
  have HBZ := Lib.hid (below_setRow HB.out (by have := HP.out; omega) (akC zA) (g := p))
  generalize v2.setRow p (akC zA) = vz at *
  go_wp2_with (fail)
  refine bodyPost_ret_by (results_row1 rfl _ _ p 24 (akC zA) (0, 0) _ rfl HZ.out Tryd.underlying24 rfl sizeA) rfl ?_
  exact ⟨rfl, HBZ.out⟩
set_option maxRecDepth 100000 in
set_option maxHeartbeats 4000000 in
theorem parse_no4 (s : ByteArray) (w : World) (ht : FT w) (hs : s.size ≤ 100000) (h0 : s.size ≠ 0) {i : Nat} (h : fmI (byt s 0 : Int) = some i) (hz : s.size = (fm i).size) (HH : byt s ((fm i).size - 1) = 0) (hal : allowF (fm i) s (readF (fm i) s) = false) : Calls Tryd.prog 9 #[.string s] w (AskOut none w) := by
  obtain ⟨e1, e2⟩ := empty_no' h0
  have hi := fun w => index_byt s 0 0 rfl (by omega) w
  have hb := byt_lt s 0
  have HC := Lib.hid (fun v (hv : FT v) => formOf_any (byt s 0 : Int) v hv)
  have HT := Lib.hid ht
  rw [foV_yes h] at HC
  obtain ⟨f6, f16⟩ := fm_size (fmI_yes h).1
  have HOK := Lib.hid (fm_ok i (fmI_yes h).1)
  obtain ⟨f, hf⟩ : ∃ f, f = fm i := ⟨_, rfl⟩
  rw [← hf] at hz hal HC HOK f6 f16 HH
  clear h hf
  have q1 : ((s.size : Int) != (f.size : Int)) = false := by rw [bne_eq_false_iff_eq]; omega
  have hj := fun w => index_byt s ((f.size : Int) - 1) (f.size - 1) (by omega) (by omega) w
  have hwz : IntKind.i64.wrap ((f.size : Int) - 1) = (f.size : Int) - 1 := IntWalk.i64_in _ (by omega)
  rw [HH] at hj
  have HRD := Lib.hid (fun v (hv : FT v) => read_any f HOK.out s v hv (by unfold maxLen; omega) (by omega))
  have HAL := Lib.hid (fun v => allow_any f HOK.out s (readF f s) v (by omega))
  rw [hal] at HAL
  generalize readF f s = x at *
  clear hz HH hal
  generalize byt s 0 = b at *
  have hw : IntKind.i64.wrap (b : Int) = (b : Int) := IntWalk.i64_in _ (by omega)
  have HR0 := Lib.hid (Blk.new w 24 (akC zA))
  have HB0 := Lib.hid ((Below.refl w.heap.size w).alloc (Nat.le_refl _) (.cells (akC zA) 24))
  clear ht hb h0
  go_enter Tryd.func9, Tryd.ntmps9
  go_upto_region 3 with (fail)
  change Code.wp _ _ _ _ (w.alloc (.cells (akC zA) 24))
  have HT0 := Lib.hid (ft HT HB0)
  generalize w.alloc (.cells (akC zA) 24) = v0 at *
  obtain ⟨p, hp⟩ : ∃ p, p = w.heap.size := ⟨_, rfl⟩
  have HP := Lib.hid hp
  rw [← hp] at HR0 ⊢
  clear hp
  go_wp2_with (fail)
  refine (HC.out _ HT0.out).mono ?_; rintro e v1 ⟨rfl, hb⟩
  have HB1 := Lib.hid (HB0.out.trans (hb.mono HB0.out.size)); have HR1 := Lib.hid (HR0.out.below hb HR0.out.lt); clear hb
  go_upto_region 4 with (fail)
  change Code.wp _ _ _ _ (v1.alloc (.cells (fmC f) 51))
  have hal := (Below.refl v1.heap.size v1).alloc (Nat.le_refl _) (.cells (fmC f) 51)
  have HX := Lib.hid (Blk.new v1 51 (fmC f)); have HB := Lib.hid (HB1.out.trans (hal.mono HB1.out.size)); have HR := Lib.hid (HR1.out.below hal HR1.out.lt)
  obtain ⟨g, hg⟩ : ∃ g, g = v1.heap.size := ⟨_, rfl⟩
  have HG := Lib.hid (show p < g by rw [hg]; exact HR1.out.lt)
  rw [← hg] at HX ⊢
  clear hal hg HB0 HB1 HR0 HR1
  generalize v1.alloc (.cells (fmC f) 51) = v2 at *
  have c1 : v2.cell? ⟨g, 1, none⟩ = some (.int .i64 (f.size : Int)) := HX.out.cell 1
  go_upto_region 6 with (fail)
  clear c1
  refine wp_region_lit ?_
  refine wpList_load_row rfl 51 (.tmp 4) rfl g rfl 51 (fmC f) (0, 0) _ HX.out Tryd.underlying51 rfl form_info ?_
  go_wp2_with (fail)
  refine (HRD.out _ (ft HT HB)).mono ?_; rintro e v3 ⟨rfl, hb⟩
  replace HB := Lib.hid (HB.out.trans (hb.mono HB.out.size)); replace HR := Lib.hid (HR.out.below hb HR.out.lt); replace HX := Lib.hid (HX.out.below hb HX.out.lt); clear hb
  go_upto_region 7 with (fail)
  change Code.wp _ _ _ _ (v3.alloc (.cells (akC x) 24))
  have hal := (Below.refl v3.heap.size v3).alloc (Nat.le_refl _) (.cells (akC x) 24)
  replace HB := Lib.hid (HB.out.trans (hal.mono HB.out.size)); have HRL := Lib.hid HR.out.lt; replace HR := Lib.hid (HR.out.below hal HR.out.lt); replace HX := Lib.hid (HX.out.below hal HX.out.lt)
  have HY := Lib.hid (Blk.new v3 24 (akC x))
  obtain ⟨r, hr⟩ : ∃ r, r = v3.heap.size := ⟨_, rfl⟩
  have HGR := Lib.hid (show p < r by rw [hr]; exact HRL.out)
  rw [← hr] at HY ⊢
  clear hal hr HRL
  generalize v3.alloc (.cells (akC x) 24) = v4 at *
  refine wp_region_lit ?_
  refine wpList_load_row rfl 51 (.tmp 4) rfl g rfl 51 (fmC f) (0, 0) _ HX.out Tryd.underlying51 rfl form_info ?_
  refine wpList_runs rfl (some 39) rfl (.string s) v4 (by rfl) ?_
  refine wpList_load_row rfl 24 (.tmp 6) rfl r rfl 24 (akC x) (0, 0) _ HY.out Tryd.underlying24 rfl sizeA ?_
  go_wp2_with (fail)
  refine (HAL.out _).mono ?_; rintro e v5 ⟨rfl, hb⟩
  replace HB := Lib.hid (HB.out.trans (hb.mono HB.out.size)); replace HR := Lib.hid (HR.out.below hb HR.out.lt); replace HY := Lib.hid (HY.out.below hb HY.out.lt); clear hb
  go_upto_region 8 with (fail)
  refine wp_region_lit ?_
  refine wpList_runs rfl (some 43) rfl (akV zA) v5 (by kernel_rfl) ?_
  refine wpList_store_row rfl 24 (.tmp 2) (.tmp 43) rfl p (akC zA) rfl rfl 24 (akC zA) HR.out sizeA rfl (akC_one _) ?_
  have HZ := Lib.hid (setRow_blk (cs' := akC zA) HR.out)
  have HBZ := Lib.hid (below_setRow HB.out (by have := HP.out; omega) (akC zA) (g := p))
  generalize v5.setRow p (akC zA) = vz at *
  go_wp2_with (fail)
  refine bodyPost_ret_by (results_row1 rfl _ _ p 24 (akC zA) (0, 0) _ rfl HZ.out Tryd.underlying24 rfl sizeA) rfl ?_
  exact ⟨rfl, HBZ.out⟩
set_option maxRecDepth 100000 in
set_option maxHeartbeats 4000000 in
theorem parse_good (s : ByteArray) (w : World) (ht : FT w) (hs : s.size ≤ 100000) (h0 : s.size ≠ 0) {i : Nat} (h : fmI (byt s 0 : Int) = some i) (hz : s.size = (fm i).size) (HH : byt s ((fm i).size - 1) = 0) (hal : allowF (fm i) s (readF (fm i) s) = true) : Calls Tryd.prog 9 #[.string s] w (AskOut (some (readF (fm i) s)) w) := by
  obtain ⟨e1, e2⟩ := empty_no' h0
  have hi := fun w => index_byt s 0 0 rfl (by omega) w
  have hb := byt_lt s 0
  have HC := Lib.hid (fun v (hv : FT v) => formOf_any (byt s 0 : Int) v hv)
  have HT := Lib.hid ht
  rw [foV_yes h] at HC
  obtain ⟨f6, f16⟩ := fm_size (fmI_yes h).1
  have HOK := Lib.hid (fm_ok i (fmI_yes h).1)
  obtain ⟨f, hf⟩ : ∃ f, f = fm i := ⟨_, rfl⟩
  rw [← hf] at hz hal HC HOK f6 f16 HH
  have HXX := Lib.hid (show readF (fm i) s = readF f s by rw [hf])
  clear h hf
  have q1 : ((s.size : Int) != (f.size : Int)) = false := by rw [bne_eq_false_iff_eq]; omega
  have hj := fun w => index_byt s ((f.size : Int) - 1) (f.size - 1) (by omega) (by omega) w
  have hwz : IntKind.i64.wrap ((f.size : Int) - 1) = (f.size : Int) - 1 := IntWalk.i64_in _ (by omega)
  rw [HH] at hj
  have HRD := Lib.hid (fun v (hv : FT v) => read_any f HOK.out s v hv (by unfold maxLen; omega) (by omega))
  have HAL := Lib.hid (fun v => allow_any f HOK.out s (readF f s) v (by omega))
  rw [hal] at HAL
  generalize readF f s = x at *
  clear hz HH hal
  generalize byt s 0 = b at *
  have hw : IntKind.i64.wrap (b : Int) = (b : Int) := IntWalk.i64_in _ (by omega)
  have HR0 := Lib.hid (Blk.new w 24 (akC zA))
  have HB0 := Lib.hid ((Below.refl w.heap.size w).alloc (Nat.le_refl _) (.cells (akC zA) 24))
  clear ht hb h0
  go_enter Tryd.func9, Tryd.ntmps9
  go_upto_region 3 with (fail)
  change Code.wp _ _ _ _ (w.alloc (.cells (akC zA) 24))
  have HT0 := Lib.hid (ft HT HB0)
  generalize w.alloc (.cells (akC zA) 24) = v0 at *
  obtain ⟨p, hp⟩ : ∃ p, p = w.heap.size := ⟨_, rfl⟩
  have HP := Lib.hid hp
  rw [← hp] at HR0 ⊢
  clear hp
  go_wp2_with (fail)
  refine (HC.out _ HT0.out).mono ?_; rintro e v1 ⟨rfl, hb⟩
  have HB1 := Lib.hid (HB0.out.trans (hb.mono HB0.out.size)); have HR1 := Lib.hid (HR0.out.below hb HR0.out.lt); clear hb
  go_upto_region 4 with (fail)
  change Code.wp _ _ _ _ (v1.alloc (.cells (fmC f) 51))
  have hal := (Below.refl v1.heap.size v1).alloc (Nat.le_refl _) (.cells (fmC f) 51)
  have HX := Lib.hid (Blk.new v1 51 (fmC f)); have HB := Lib.hid (HB1.out.trans (hal.mono HB1.out.size)); have HR := Lib.hid (HR1.out.below hal HR1.out.lt)
  obtain ⟨g, hg⟩ : ∃ g, g = v1.heap.size := ⟨_, rfl⟩
  have HG := Lib.hid (show p < g by rw [hg]; exact HR1.out.lt)
  rw [← hg] at HX ⊢
  clear hal hg HB0 HB1 HR0 HR1
  generalize v1.alloc (.cells (fmC f) 51) = v2 at *
  have c1 : v2.cell? ⟨g, 1, none⟩ = some (.int .i64 (f.size : Int)) := HX.out.cell 1
  go_upto_region 6 with (fail)
  clear c1
  refine wp_region_lit ?_
  refine wpList_load_row rfl 51 (.tmp 4) rfl g rfl 51 (fmC f) (0, 0) _ HX.out Tryd.underlying51 rfl form_info ?_
  go_wp2_with (fail)
  refine (HRD.out _ (ft HT HB)).mono ?_; rintro e v3 ⟨rfl, hb⟩
  replace HB := Lib.hid (HB.out.trans (hb.mono HB.out.size)); replace HR := Lib.hid (HR.out.below hb HR.out.lt); replace HX := Lib.hid (HX.out.below hb HX.out.lt); clear hb
  go_upto_region 7 with (fail)
  change Code.wp _ _ _ _ (v3.alloc (.cells (akC x) 24))
  have hal := (Below.refl v3.heap.size v3).alloc (Nat.le_refl _) (.cells (akC x) 24)
  replace HB := Lib.hid (HB.out.trans (hal.mono HB.out.size)); have HRL := Lib.hid HR.out.lt; replace HR := Lib.hid (HR.out.below hal HR.out.lt); replace HX := Lib.hid (HX.out.below hal HX.out.lt)
  have HY := Lib.hid (Blk.new v3 24 (akC x))
  obtain ⟨r, hr⟩ : ∃ r, r = v3.heap.size := ⟨_, rfl⟩
  have HGR := Lib.hid (show p < r by rw [hr]; exact HRL.out)
  rw [← hr] at HY ⊢
  clear hal hr HRL
  generalize v3.alloc (.cells (akC x) 24) = v4 at *
  refine wp_region_lit ?_
  refine wpList_load_row rfl 51 (.tmp 4) rfl g rfl 51 (fmC f) (0, 0) _ HX.out Tryd.underlying51 rfl form_info ?_
  refine wpList_runs rfl (some 39) rfl (.string s) v4 (by rfl) ?_
  refine wpList_load_row rfl 24 (.tmp 6) rfl r rfl 24 (akC x) (0, 0) _ HY.out Tryd.underlying24 rfl sizeA ?_
  go_wp2_with (fail)
  refine (HAL.out _).mono ?_; rintro e v5 ⟨rfl, hb⟩
  replace HB := Lib.hid (HB.out.trans (hb.mono HB.out.size)); replace HR := Lib.hid (HR.out.below hb HR.out.lt); replace HY := Lib.hid (HY.out.below hb HY.out.lt); clear hb
  go_upto_region 9 with (fail)
  refine wp_region_lit ?_
  refine wpList_load_row rfl 24 (.tmp 6) rfl r rfl 24 (akC x) (0, 0) _ HY.out Tryd.underlying24 rfl sizeA ?_
  refine wpList_store_row rfl 24 (.tmp 2) (.tmp 44) rfl p (akC x) rfl rfl 24 (akC zA) HR.out sizeA rfl (akC_one _) ?_
  have HZ := Lib.hid (setRow_blk (cs' := akC x) HR.out)
  have HBZ := Lib.hid (below_setRow HB.out (by have := HP.out; omega) (akC x) (g := p))
  generalize v5.setRow p (akC x) = vz at *
  go_wp2_with (fail)
  refine bodyPost_ret_by (results_row1 rfl _ _ p 24 (akC x) (0, 0) _ rfl HZ.out Tryd.underlying24 rfl sizeA) rfl ?_
  exact ⟨by rw [HXX.out]; rfl, HBZ.out⟩
theorem parse_any (s : ByteArray) (w : World) (ht : FT w) (hs : s.size ≤ 100000) : Calls Tryd.prog 9 #[.string s] w (AskOut (parseS s) w) := by
  rw [← parse_code]
  unfold codeP
  by_cases h0 : s.size = 0
  · rw [if_pos h0]; exact parse_none s w h0
  · rw [if_neg h0]
    cases h : fmI (byt s 0 : Int) with
    | none => exact parse_no1 s w ht hs h0 h
    | some i =>
      show Calls _ _ _ _ (AskOut (if s.size ≠ (fm i).size ∨ byt s ((fm i).size - 1) ≠ 0 then none else if allowF (fm i) s (readF (fm i) s) = true then some (readF (fm i) s) else none) w)
      by_cases h1 : s.size ≠ (fm i).size
      · rw [if_pos (.inl h1)]; exact parse_no2 s w ht hs h0 h h1
      · by_cases h2 : byt s ((fm i).size - 1) ≠ 0
        · rw [if_pos (.inr h2)]; exact parse_no3 s w ht hs h0 h (by omega) h2
        · rw [if_neg (by omega)]
          cases h3 : allowF (fm i) s (readF (fm i) s) with
          | true => rw [if_pos rfl]; exact parse_good s w ht hs h0 h (by omega) (by omega) h3
          | false => rw [if_neg (by decide)]; exact parse_no4 s w ht hs h0 h (by omega) (by omega) h3
end Go.Proofs.YtaachlijpgmjeaaDoor
