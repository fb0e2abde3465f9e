/- What the code makes of a sense: its bytes. -/
import Derived.Test.YthcaeihpdlgcaaaDoorSnM
import Derived.Lib.BufferWrite
import Derived.Lib.ConvBytes
namespace Go.Proofs.YthcaeihpdlgcaaaDoor
open Go.RowKit
/-- Eighteen bytes, by those that may be other than 0. -/
abbrev l18 (b0 b2 m0 m1 m2 m3 b7 y z : UInt8) : List UInt8 := [b0, 0, b2, m0, m1, m2, m3, b7, 0, 0, 0, 0, y, z, 0, 0, 0, 0]
abbrev c18 (b0 b2 m0 m1 m2 m3 b7 y z : UInt8) : Array Value := #[.int .u8 (b0.toNat : Int), .int .u8 0, .int .u8 (b2.toNat : Int), .int .u8 (m0.toNat : Int), .int .u8 (m1.toNat : Int), .int .u8 (m2.toNat : Int), .int .u8 (m3.toNat : Int), .int .u8 (b7.toNat : Int), .int .u8 0, .int .u8 0, .int .u8 0, .int .u8 0, .int .u8 (y.toNat : Int), .int .u8 (z.toNat : Int), .int .u8 0, .int .u8 0, .int .u8 0, .int .u8 0]
theorem sz_u8 : (Tryd.prog.info? 5).map (·.size) = some 1 := by kernel_rfl
theorem conv18 (v : World) (g : Nat) (b0 b2 m0 m1 m2 m3 b7 y z : UInt8) (h : Blk v g 54 (c18 b0 b2 m0 m1 m2 m3 b7 y z)) : (convert 55 9 (.slice (some ⟨g, 0, none⟩) 18 18)).run Tryd.prog v = .ok (.string ⟨(l18 b0 b2 m0 m1 m2 m3 b7 y z).toArray⟩) v :=
  run_convert_bytes_back (P := Tryd.prog) v 55 9 5 ⟨g, 0, none⟩ 18 (l18 b0 b2 m0 m1 m2 m3 b7 y z) Tryd.underlying55 Tryd.underlying5 Tryd.underlying9 (fun j hj => by
    rw [Addr.add_lit, Nat.zero_add]
    have hj' : j < 18 := hj
    match j, hj' with
    | 0, _ => rw [h.cell]; rfl
    | 1, _ => rw [h.cell]; rfl
    | 2, _ => rw [h.cell]; rfl
    | 3, _ => rw [h.cell]; rfl
    | 4, _ => rw [h.cell]; rfl
    | 5, _ => rw [h.cell]; rfl
    | 6, _ => rw [h.cell]; rfl
    | 7, _ => rw [h.cell]; rfl
    | 8, _ => rw [h.cell]; rfl
    | 9, _ => rw [h.cell]; rfl
    | 10, _ => rw [h.cell]; rfl
    | 11, _ => rw [h.cell]; rfl
    | 12, _ => rw [h.cell]; rfl
    | 13, _ => rw [h.cell]; rfl
    | 14, _ => rw [h.cell]; rfl
    | 15, _ => rw [h.cell]; rfl
    | 16, _ => rw [h.cell]; rfl
    | 17, _ => rw [h.cell]; rfl
    | j + 18, h => exact absurd h (by omega))
theorem copy18 (w : World) (g : Nat) (b0 m0 m1 m2 m3 : UInt8) (m : ByteArray) (hm : m.data.toList = [m0, m1, m2, m3]) (hb : Blk w g 54 (c18 b0 0 0 0 0 0 0 0 0)) :
    ∃ W, (Builtin.copy_ #[55, 9] 3 #[.slice (some ⟨g, 3, none⟩) 15 15, .string m]).run Tryd.prog w = .ok (.int .i64 4) W ∧ Blk W g 54 (c18 b0 0 m0 m1 m2 m3 0 0 0) ∧ Only (fun k => k = g) w W := by
  have hs : m.size = 4 := by
    have := congrArg List.length hm
    simpa using this
  have hrun := Lib.run_copy_row_string (P := Tryd.prog) w 55 9 3 5 g 3 15 15 m (c18 b0 0 0 0 0 0 0 0 0) 54 Tryd.underlying55 sz_u8 hb (by omega) (by rw [hs]; show 3 + 4 ≤ 18; decide)
  have hcell : ((c18 b0 0 0 0 0 0 0 0 0).toList.take 3 ++ Lib.byteCells m.data.toList ++ (c18 b0 0 0 0 0 0 0 0 0).toList.drop (3 + m.size)).toArray = c18 b0 0 m0 m1 m2 m3 0 0 0 := by
    rw [hm, hs]; rfl
  rw [hcell, hs] at hrun
  exact ⟨_, hrun, setRow_blk hb, setRow_only w g _⟩
theorem four_bytes {m : ByteArray} (h : m.size = 4) : ∃ m0 m1 m2 m3, m.data.toList = [m0, m1, m2, m3] := by
  have : m.data.toList.length = 4 := by simpa using h
  match m.data.toList, this with
  | [a, b, c, d], _ => exact ⟨a, b, c, d, rfl⟩
set_option maxRecDepth 100000 in
set_option maxHeartbeats 16000000 in
theorem bytes_any (x : Sn) (w : World) : Calls Tryd.prog 8 #[snV x] w fun e w' => e = .returned (bytV (bytX x)) ∧ Below w.heap.size w w' := by
  have HX0 := Lib.hid (Blk.new w 23 (snC x))
  have HB0 := Lib.hid ((Below.refl w.heap.size w).alloc (Nat.le_refl _) (.cells (snC x) 23))
  have HM := Lib.hid (fun v => isSense_any x v)
  cases hm : mayX x with
  | false =>
    have HV := Lib.hid (show bytX x = none by unfold bytX; rw [hm]; rfl)
    rw [hm] at HM
    clear hm
    go_enter Tryd.func8, Tryd.ntmps8
    go_upto_region 1 with (fail)
    change Code.wp _ _ _ _ (w.alloc (.cells (snC x) 23))
    generalize w.alloc (.cells (snC x) 23) = v0 at *
    obtain ⟨p, hp⟩ : ∃ p, p = w.heap.size := ⟨_, rfl⟩
    have HP := Lib.hid hp
    rw [← hp] at HX0 ⊢
    clear hp
    refine wp_region_lit ?_
    refine wpList_load_row rfl 23 (.tmp 1) rfl p rfl 23 (snC x) (0, 0) _ HX0.out Tryd.underlying23 rfl sn_info ?_
    simp only [Act.put, List.setIfInBounds_toArray, List.set_cons_zero, List.set_cons_succ]
    go_wp2_with (fail)
    refine (HM.out v0).mono ?_; rintro e v1 ⟨rfl, hb⟩
    have HB := Lib.hid (HB0.out.trans (hb.mono HB0.out.size)); have HX := Lib.hid (HX0.out.below hb HX0.out.lt); clear hb HB0 HX0
    go_wp2_with (fail)
    go_ret2
    exact ⟨by rw [HV.out]; rfl, HB.out⟩
  | true =>
    have HV := Lib.hid (show bytX x = some (bytS x) by unfold bytX; rw [hm]; rfl)
    rw [hm] at HM
    obtain ⟨m1, m2, m3, m4, m5, m6, m7, m8⟩ := of_decide_eq_true hm
    have hwk : IntKind.u8.wrap x.k = ((i8 x.k).toNat : Int) := by rw [i8_nat m1 (by omega), IntKind.wrap_u8]; omega
    have hwa : IntKind.u8.wrap x.a = ((i8 x.a).toNat : Int) := by rw [i8_nat m3 m4, IntKind.wrap_u8]; omega
    have hwq : IntKind.u8.wrap x.q = ((i8 x.q).toNat : Int) := by rw [i8_nat m5 m6, IntKind.wrap_u8]; omega
    have hL := bytS_list x
    by_cases hn : x.t = -1
    · have ht : (x.t == -1) = true := by rw [hn]; rfl
      have hz : (putHi (atN x) (4 : Nat)).data.toList = [0, 0, 0, 0] := by unfold atN; rw [if_neg (by omega)]; rfl
      rw [if_neg (by omega), hz] at hL
      have HL := Lib.hid (show (⟨(l18 112 (i8 x.k) 0 0 0 0 10 (i8 x.a) (i8 x.q)).toArray⟩ : ByteArray) = bytS x by
        have := congrArg List.toArray hL
        rw [Array.toArray_toList] at this
        calc (⟨(l18 112 (i8 x.k) 0 0 0 0 10 (i8 x.a) (i8 x.q)).toArray⟩ : ByteArray) = ⟨(bytS x).data⟩ := by rw [this]; rfl
          _ = bytS x := rfl)
      generalize bytS x = S at *
      generalize i8 x.k = yk at *
      generalize i8 x.a = ya at *
      generalize i8 x.q = yq at *
      clear hm m1 m2 m3 m4 m5 m6 m7 m8 hL hz
      go_enter Tryd.func8, Tryd.ntmps8
      go_upto_region 1 with (fail)
      change Code.wp _ _ _ _ (w.alloc (.cells (snC x) 23))
      generalize w.alloc (.cells (snC x) 23) = v0 at *
      obtain ⟨p, hp⟩ : ∃ p, p = w.heap.size := ⟨_, rfl⟩
      have HP := Lib.hid hp
      rw [← hp] at HX0 ⊢
      clear hp
      refine wp_region_lit ?_
      refine wpList_load_row rfl 23 (.tmp 1) rfl p rfl 23 (snC x) (0, 0) _ HX0.out Tryd.underlying23 rfl sn_info ?_
      simp only [Act.put, List.setIfInBounds_toArray, List.set_cons_zero, List.set_cons_succ]
      go_wp2_with (fail)
      refine (HM.out v0).mono ?_; rintro e v1 ⟨rfl, hb⟩
      have HB := Lib.hid (HB0.out.trans (hb.mono HB0.out.size)); have HX := Lib.hid (HX0.out.below hb HX0.out.lt); clear hb HB0 HX0
      go_upto_region 3 with (fail)
      refine wp_region_lit ?_
      refine wpList_runs rfl (some 4) rfl (.pointer (some ⟨v1.heap.size, 0, none⟩)) (v1.alloc (.cells (c18 0 0 0 0 0 0 0 0 0) 54)) (by kernel_rfl) ?_
      simp only [Act.put, List.setIfInBounds_toArray, List.set_cons_zero, List.set_cons_succ]
      have hal := (Below.refl v1.heap.size v1).alloc (Nat.le_refl _) (.cells (c18 0 0 0 0 0 0 0 0 0) 54)
      replace HB := Lib.hid (HB.out.trans (hal.mono HB.out.size)); have HX1 := Lib.hid (HX.out.below hal HX.out.lt); have HG := Lib.hid (Blk.new v1 54 (c18 0 0 0 0 0 0 0 0 0))
      obtain ⟨g, hg⟩ : ∃ g, g = v1.heap.size := ⟨_, rfl⟩
      have HPG := Lib.hid (show p < g by rw [hg]; exact HX.out.lt)
      rw [← hg] at HG ⊢
      clear hal hg HX
      have HX := HX1; clear HX1
      generalize v1.alloc (.cells (c18 0 0 0 0 0 0 0 0 0) 54) = v2 at *
      have f0 := HG.out.free 0
      have e0 : v2.cell? ⟨g, 0, none⟩ = some (.int .u8 0) := HG.out.cell 0
      go_upto_region 5 with (fail)
      replace HG := Lib.hid (show Blk (v2.setCell ⟨g, 0, none⟩ (.int .u8 112)) g 54 (c18 112 0 0 0 0 0 0 0 0) from HG.out.put 0 (.int .u8 112))
      replace HB := Lib.hid (HB.out.setCell (p := ⟨g, 0, none⟩) (show w.heap.size ≤ g by have := HPG.out; rw [← HP.out]; omega) (.int .u8 112))
      replace HX := Lib.hid (HX.out.far (p := ⟨g, 0, none⟩) (show p ≠ g by have := HPG.out; omega) (.int .u8 112))
      clear f0 e0
      generalize v2.setCell ⟨g, 0, none⟩ (.int .u8 112) = v3 at *
      have d3 : v3.cell? ⟨p, 3, none⟩ = some (.int .i64 x.t) := HX.out.cell 3
      go_upto_region 8 with (fail)
      clear d3
      have f2 := HG.out.free 2
      have e2 : v3.cell? ⟨g, 2, none⟩ = some (.int .u8 0) := HG.out.cell 2
      have d0 : v3.cell? ⟨p, 0, none⟩ = some (.int .i64 x.k) := HX.out.cell 0
      go_upto_region 9 with (fail)
      replace HG := Lib.hid (show Blk (v3.setCell ⟨g, 2, none⟩ (.int .u8 (yk.toNat : Int))) g 54 (c18 112 yk 0 0 0 0 0 0 0) from HG.out.put 2 (.int .u8 (yk.toNat : Int)))
      replace HB := Lib.hid (HB.out.setCell (p := ⟨g, 2, none⟩) (show w.heap.size ≤ g by have := HPG.out; rw [← HP.out]; omega) (.int .u8 (yk.toNat : Int)))
      replace HX := Lib.hid (HX.out.far (p := ⟨g, 2, none⟩) (show p ≠ g by have := HPG.out; omega) (.int .u8 (yk.toNat : Int)))
      clear f2 e2 d0
      generalize v3.setCell ⟨g, 2, none⟩ (.int .u8 (yk.toNat : Int)) = v4 at *
      have f7 := HG.out.free 7
      have e7 : v4.cell? ⟨g, 7, none⟩ = some (.int .u8 0) := HG.out.cell 7
      go_upto_region 10 with (fail)
      replace HG := Lib.hid (show Blk (v4.setCell ⟨g, 7, none⟩ (.int .u8 10)) g 54 (c18 112 yk 0 0 0 0 10 0 0) from HG.out.put 7 (.int .u8 10))
      replace HB := Lib.hid (HB.out.setCell (p := ⟨g, 7, none⟩) (show w.heap.size ≤ g by have := HPG.out; rw [← HP.out]; omega) (.int .u8 10))
      replace HX := Lib.hid (HX.out.far (p := ⟨g, 7, none⟩) (show p ≠ g by have := HPG.out; omega) (.int .u8 10))
      clear f7 e7
      generalize v4.setCell ⟨g, 7, none⟩ (.int .u8 10) = v5 at *
      have f12 := HG.out.free 12
      have e12 : v5.cell? ⟨g, 12, none⟩ = some (.int .u8 0) := HG.out.cell 12
      have d1 : v5.cell? ⟨p, 1, none⟩ = some (.int .i64 x.a) := HX.out.cell 1
      go_upto_region 11 with (fail)
      replace HG := Lib.hid (show Blk (v5.setCell ⟨g, 12, none⟩ (.int .u8 (ya.toNat : Int))) g 54 (c18 112 yk 0 0 0 0 10 ya 0) from HG.out.put 12 (.int .u8 (ya.toNat : Int)))
      replace HB := Lib.hid (HB.out.setCell (p := ⟨g, 12, none⟩) (show w.heap.size ≤ g by have := HPG.out; rw [← HP.out]; omega) (.int .u8 (ya.toNat : Int)))
      replace HX := Lib.hid (HX.out.far (p := ⟨g, 12, none⟩) (show p ≠ g by have := HPG.out; omega) (.int .u8 (ya.toNat : Int)))
      clear f12 e12 d1
      generalize v5.setCell ⟨g, 12, none⟩ (.int .u8 (ya.toNat : Int)) = v6 at *
      have f13 := HG.out.free 13
      have e13 : v6.cell? ⟨g, 13, none⟩ = some (.int .u8 0) := HG.out.cell 13
      have d2 : v6.cell? ⟨p, 2, none⟩ = some (.int .i64 x.q) := HX.out.cell 2
      go_upto_region 12 with (fail)
      replace HG := Lib.hid (show Blk (v6.setCell ⟨g, 13, none⟩ (.int .u8 (yq.toNat : Int))) g 54 (c18 112 yk 0 0 0 0 10 ya yq) from HG.out.put 13 (.int .u8 (yq.toNat : Int)))
      replace HB := Lib.hid (HB.out.setCell (p := ⟨g, 13, none⟩) (show w.heap.size ≤ g by have := HPG.out; rw [← HP.out]; omega) (.int .u8 (yq.toNat : Int)))
      replace HX := Lib.hid (HX.out.far (p := ⟨g, 13, none⟩) (show p ≠ g by have := HPG.out; omega) (.int .u8 (yq.toNat : Int)))
      clear f13 e13 d2
      generalize v6.setCell ⟨g, 13, none⟩ (.int .u8 (yq.toNat : Int)) = v7 at *
      have hcv := conv18 v7 g 112 yk 0 0 0 0 10 ya yq HG.out
      rw [HL.out] at hcv
      go_wp2_with (fail)
      go_ret2
      exact ⟨by rw [HV.out]; rfl, HB.out⟩
    · have ht : (x.t == -1) = false := by simpa using hn
      obtain ⟨m0, m1', m2', m3', hz⟩ := four_bytes (putHi_size (atN x) 4 (by decide) (by decide))
      rw [if_pos (by omega)] at hL
      have HL := Lib.hid (show (⟨(l18 240 (i8 x.k) m0 m1' m2' m3' 10 (i8 x.a) (i8 x.q)).toArray⟩ : ByteArray) = bytS x by
        have h2 : (bytS x).data.toList = l18 240 (i8 x.k) m0 m1' m2' m3' 10 (i8 x.a) (i8 x.q) := by
          rw [hL]
          have : (putHi (atN x) ((4 : Nat) : Int)).data.toList = [m0, m1', m2', m3'] := hz
          rw [this]; rfl
        rw [← h2])
      have HML := Lib.hid (show (putHi (atN x) ((4 : Nat) : Int)).data.toList = [m0, m1', m2', m3'] from hz)
      have hwt : IntKind.u64.wrap x.t = (atN x : Int) := by unfold atN; rw [if_pos (by omega), IntKind.wrap_u64]; omega
      have HPB := Lib.hid (fun v => putBig_any (atN x) ((4 : Nat) : Int) v)
      generalize bytS x = S at *
      generalize putHi (atN x) ((4 : Nat) : Int) = m at *
      generalize atN x = n at *
      generalize i8 x.k = yk at *
      generalize i8 x.a = ya at *
      generalize i8 x.q = yq at *
      clear hm m1 m2 m3 m4 m5 m6 m7 m8 hL hz
      go_enter Tryd.func8, Tryd.ntmps8
      go_upto_region 1 with (fail)
      change Code.wp _ _ _ _ (w.alloc (.cells (snC x) 23))
      generalize w.alloc (.cells (snC x) 23) = v0 at *
      obtain ⟨p, hp⟩ : ∃ p, p = w.heap.size := ⟨_, rfl⟩
      have HP := Lib.hid hp
      rw [← hp] at HX0 ⊢
      clear hp
      refine wp_region_lit ?_
      refine wpList_load_row rfl 23 (.tmp 1) rfl p rfl 23 (snC x) (0, 0) _ HX0.out Tryd.underlying23 rfl sn_info ?_
      simp only [Act.put, List.setIfInBounds_toArray, List.set_cons_zero, List.set_cons_succ]
      go_wp2_with (fail)
      refine (HM.out v0).mono ?_; rintro e v1 ⟨rfl, hb⟩
      have HB := Lib.hid (HB0.out.trans (hb.mono HB0.out.size)); have HX := Lib.hid (HX0.out.below hb HX0.out.lt); clear hb HB0 HX0
      go_upto_region 3 with (fail)
      refine wp_region_lit ?_
      refine wpList_runs rfl (some 4) rfl (.pointer (some ⟨v1.heap.size, 0, none⟩)) (v1.alloc (.cells (c18 0 0 0 0 0 0 0 0 0) 54)) (by kernel_rfl) ?_
      simp only [Act.put, List.setIfInBounds_toArray, List.set_cons_zero, List.set_cons_succ]
      have hal := (Below.refl v1.heap.size v1).alloc (Nat.le_refl _) (.cells (c18 0 0 0 0 0 0 0 0 0) 54)
      replace HB := Lib.hid (HB.out.trans (hal.mono HB.out.size)); have HX1 := Lib.hid (HX.out.below hal HX.out.lt); have HG := Lib.hid (Blk.new v1 54 (c18 0 0 0 0 0 0 0 0 0))
      obtain ⟨g, hg⟩ : ∃ g, g = v1.heap.size := ⟨_, rfl⟩
      have HPG := Lib.hid (show p < g by rw [hg]; exact HX.out.lt)
      rw [← hg] at HG ⊢
      clear hal hg HX
      have HX := HX1; clear HX1
      generalize v1.alloc (.cells (c18 0 0 0 0 0 0 0 0 0) 54) = v2 at *
      have f0 := HG.out.free 0
      have e0 : v2.cell? ⟨g, 0, none⟩ = some (.int .u8 0) := HG.out.cell 0
      go_upto_region 5 with (fail)
      replace HG := Lib.hid (show Blk (v2.setCell ⟨g, 0, none⟩ (.int .u8 112)) g 54 (c18 112 0 0 0 0 0 0 0 0) from HG.out.put 0 (.int .u8 112))
      replace HB := Lib.hid (HB.out.setCell (p := ⟨g, 0, none⟩) (show w.heap.size ≤ g by have := HPG.out; rw [← HP.out]; omega) (.int .u8 112))
      replace HX := Lib.hid (HX.out.far (p := ⟨g, 0, none⟩) (show p ≠ g by have := HPG.out; omega) (.int .u8 112))
      clear f0 e0
      generalize v2.setCell ⟨g, 0, none⟩ (.int .u8 112) = v3 at *
      have d3 : v3.cell? ⟨p, 3, none⟩ = some (.int .i64 x.t) := HX.out.cell 3
      go_upto_region 6 with (fail)
      clear d3
      have f0 := HG.out.free 0
      have e0 : v3.cell? ⟨g, 0, none⟩ = some (.int .u8 112) := HG.out.cell 0
      go_upto_region 7 with (fail)
      replace HG := Lib.hid (show Blk (v3.setCell ⟨g, 0, none⟩ (.int .u8 240)) g 54 (c18 240 0 0 0 0 0 0 0 0) from HG.out.put 0 (.int .u8 240))
      replace HB := Lib.hid (HB.out.setCell (p := ⟨g, 0, none⟩) (show w.heap.size ≤ g by have := HPG.out; rw [← HP.out]; omega) (.int .u8 240))
      replace HX := Lib.hid (HX.out.far (p := ⟨g, 0, none⟩) (show p ≠ g by have := HPG.out; omega) (.int .u8 240))
      clear f0 e0
      generalize v3.setCell ⟨g, 0, none⟩ (.int .u8 240) = v4 at *
      refine wp_region_held_drew (S := fun v => Blk v p 23 (snC x)) (by kernel_rfl) ?_ (fun hHeld => ?_)
      · exact HX.out.drew
      replace HB := Lib.hid HB.out.drew; replace HX := Lib.hid HX.out.drew; replace HG := Lib.hid HG.out.drew
      generalize World.drew _ = v5 at *
      refine takeH (i := 0) (v := ?_) rfl (by kernel_rfl) (by kernel_rfl) (by kernel_rfl) (fun _ _ _ h => h) (some 13) rfl (Or.inl ⟨by rfl, ?_⟩) (by assumption) ?_
      rotate_left 1
      · intro wz hSw
        go_simp
        try with_reducible rfl
      simp only [Act.put, List.setIfInBounds_toArray, List.set_cons_zero, List.set_cons_succ]
      refine takeH (i := 1) (v := ?_) rfl (by kernel_rfl) (by kernel_rfl) (by kernel_rfl) (fun _ _ _ h => h) (some 14) rfl (Or.inl ⟨by rfl, ?_⟩) (by assumption) ?_
      rotate_left 1
      · intro wz hSw
        go_simp
        try with_reducible rfl
      simp only [Act.put, List.setIfInBounds_toArray, List.set_cons_zero, List.set_cons_succ]
      refine takeH (i := 2) (v := ?_) rfl (by kernel_rfl) (by kernel_rfl) (by kernel_rfl) (fun _ _ _ h => h) (some 15) rfl (Or.inl ⟨by rfl, ?_⟩) (by assumption) ?_
      rotate_left 1
      · intro wz hSw
        have d3 : wz.cell? ⟨p, 3, none⟩ = some (.int .i64 x.t) := hSw.cell 3
        go_simp
        try with_reducible rfl
      simp only [Act.put, List.setIfInBounds_toArray, List.set_cons_zero, List.set_cons_succ]
      refine takeH (i := 3) (v := ?_) rfl (by kernel_rfl) (by kernel_rfl) (by kernel_rfl) (fun _ _ _ h => h) (some 16) rfl (Or.inl ⟨by rfl, ?_⟩) (by assumption) ?_
      rotate_left 1
      · intro wz hSw
        go_simp
        try with_reducible rfl
      simp only [Act.put, List.setIfInBounds_toArray, List.set_cons_zero, List.set_cons_succ]
      refine wpAnyH_ready (rs := [4]) (by kernel_rfl) (by simp) ?_
      refine AllReadyH.cons rfl (fun KK hKK => ?_) AllReadyH.nil
      refine step_call2 (by rfl) 18 (.tmp 16) (.const (.int .i64 4)) _ (by rfl) _ _ (by rfl) (by rfl) (fun _ _ => rfl) _ (HPB.out v5) (some 17) rfl ?_
      rintro e v6 ⟨rfl, hb⟩
      refine ⟨_, rfl, ?_⟩
      replace HB := Lib.hid (HB.out.trans (hb.mono HB.out.size)); replace HX := Lib.hid (HX.out.below hb HX.out.lt); replace HG := Lib.hid (HG.out.below hb HG.out.lt); clear hb
      refine hKK.out _ _ HX.out (fun hHeld => ?_)
      clear hKK KK
      simp only [Act.put, List.setIfInBounds_toArray, List.set_cons_zero, List.set_cons_succ]
      obtain ⟨v7, hcp, hW, hOW⟩ := copy18 v6 g 240 m0 m1' m2' m3' m HML.out HG.out
      refine wpAnyH_ready (rs := [5]) (by kernel_rfl) (by simp) ?_
      refine AllReadyH.cons rfl (fun KK hKK => ?_) AllReadyH.nil
      refine step_alloc (by rfl) (.int .i64 4) v7 (by go_simp) (some 18) rfl ?_
      replace HX := Lib.hid (HX.out.only hOW (by have := HPG.out; omega)); replace HG := Lib.hid hW
      replace HB := Lib.hid (HB.out.trans (below_only hOW HB.out.size (fun k hk => by rw [hk]; have := HPG.out; rw [← HP.out]; omega)))
      clear hcp hW hOW
      refine hKK.out _ _ HX.out (fun hHeld => ?_)
      clear hKK KK
      simp only [Act.put, List.setIfInBounds_toArray, List.set_cons_zero, List.set_cons_succ]
      refine wpAnyH_done (by kernel_rfl) ?_ _
      go_upto_region 8 with (fail)
      have f2 := HG.out.free 2
      have e2 : v7.cell? ⟨g, 2, none⟩ = some (.int .u8 0) := HG.out.cell 2
      have d0 : v7.cell? ⟨p, 0, none⟩ = some (.int .i64 x.k) := HX.out.cell 0
      go_upto_region 9 with (fail)
      replace HG := Lib.hid (show Blk (v7.setCell ⟨g, 2, none⟩ (.int .u8 (yk.toNat : Int))) g 54 (c18 240 yk m0 m1' m2' m3' 0 0 0) from HG.out.put 2 (.int .u8 (yk.toNat : Int)))
      replace HB := Lib.hid (HB.out.setCell (p := ⟨g, 2, none⟩) (show w.heap.size ≤ g by have := HPG.out; rw [← HP.out]; omega) (.int .u8 (yk.toNat : Int)))
      replace HX := Lib.hid (HX.out.far (p := ⟨g, 2, none⟩) (show p ≠ g by have := HPG.out; omega) (.int .u8 (yk.toNat : Int)))
      clear f2 e2 d0
      generalize v7.setCell ⟨g, 2, none⟩ (.int .u8 (yk.toNat : Int)) = v8 at *
      have f7 := HG.out.free 7
      have e7 : v8.cell? ⟨g, 7, none⟩ = some (.int .u8 0) := HG.out.cell 7
      go_upto_region 10 with (fail)
      replace HG := Lib.hid (show Blk (v8.setCell ⟨g, 7, none⟩ (.int .u8 10)) g 54 (c18 240 yk m0 m1' m2' m3' 10 0 0) from HG.out.put 7 (.int .u8 10))
      replace HB := Lib.hid (HB.out.setCell (p := ⟨g, 7, none⟩) (show w.heap.size ≤ g by have := HPG.out; rw [← HP.out]; omega) (.int .u8 10))
      replace HX := Lib.hid (HX.out.far (p := ⟨g, 7, none⟩) (show p ≠ g by have := HPG.out; omega) (.int .u8 10))
      clear f7 e7
      generalize v8.setCell ⟨g, 7, none⟩ (.int .u8 10) = v9 at *
      have f12 := HG.out.free 12
      have e12 : v9.cell? ⟨g, 12, none⟩ = some (.int .u8 0) := HG.out.cell 12
      have d1 : v9.cell? ⟨p, 1, none⟩ = some (.int .i64 x.a) := HX.out.cell 1
      go_upto_region 11 with (fail)
      replace HG := Lib.hid (show Blk (v9.setCell ⟨g, 12, none⟩ (.int .u8 (ya.toNat : Int))) g 54 (c18 240 yk m0 m1' m2' m3' 10 ya 0) from HG.out.put 12 (.int .u8 (ya.toNat : Int)))
      replace HB := Lib.hid (HB.out.setCell (p := ⟨g, 12, none⟩) (show w.heap.size ≤ g by have := HPG.out; rw [← HP.out]; omega) (.int .u8 (ya.toNat : Int)))
      replace HX := Lib.hid (HX.out.far (p := ⟨g, 12, none⟩) (show p ≠ g by have := HPG.out; omega) (.int .u8 (ya.toNat : Int)))
      clear f12 e12 d1
      generalize v9.setCell ⟨g, 12, none⟩ (.int .u8 (ya.toNat : Int)) = v10 at *
      have f13 := HG.out.free 13
      have e13 : v10.cell? ⟨g, 13, none⟩ = some (.int .u8 0) := HG.out.cell 13
      have d2 : v10.cell? ⟨p, 2, none⟩ = some (.int .i64 x.q) := HX.out.cell 2
      go_upto_region 12 with (fail)
      replace HG := Lib.hid (show Blk (v10.setCell ⟨g, 13, none⟩ (.int .u8 (yq.toNat : Int))) g 54 (c18 240 yk m0 m1' m2' m3' 10 ya yq) from HG.out.put 13 (.int .u8 (yq.toNat : Int)))
      replace HB := Lib.hid (HB.out.setCell (p := ⟨g, 13, none⟩) (show w.heap.size ≤ g by have := HPG.out; rw [← HP.out]; omega) (.int .u8 (yq.toNat : Int)))
      replace HX := Lib.hid (HX.out.far (p := ⟨g, 13, none⟩) (show p ≠ g by have := HPG.out; omega) (.int .u8 (yq.toNat : Int)))
      clear f13 e13 d2
      generalize v10.setCell ⟨g, 13, none⟩ (.int .u8 (yq.toNat : Int)) = v11 at *
      have hcv := conv18 v11 g 240 yk m0 m1' m2' m3' 10 ya yq HG.out
      rw [HL.out] at hcv
      go_wp2_with (fail)
      go_ret2
      exact ⟨by rw [HV.out]; rfl, HB.out⟩
end Go.Proofs.YthcaeihpdlgcaaaDoor
